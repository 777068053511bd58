/- The kernel: list, chdir. Condition: it lies as stated. -/
import Derived.Test.YtmilagppbepnbaaGreatSpi
import Derived.Test.YtmilagppbepnbaaGreatSpg
import Derived.Test.YtmilagppbepnbaaGreatSpd
import Derived.Test.YtmilagppbepnbaaGreatSpb
import Derived.Deep.RegionLaw
import Derived.Laws.IdiomCopy
import Derived.LaidEqlPtr
namespace Go.Proofs.YtmilagppbepnbaaGreat.Kn
open Go.RowKit Go.PlainAid
set_option linter.unusedVariables false
set_option linter.unusedSimpArgs false
attribute [local go_sem] Oper.semAt_some
def listKM (K : Ker) (P : Prc) (s : ByteArray) : List ByteArray × Int :=
  if (WalkM K.fs P.dir s).2 ≠ 0 then ([], (WalkM K.fs P.dir s).2)
  else if (ListM K.fs (WalkM K.fs P.dir s).1).2 = 0 ∧ MayM K.fs (WalkM K.fs P.dir s).1 4 = false then ([], 13)
  else ((ListM K.fs (WalkM K.fs P.dir s).1).1, (ListM K.fs (WalkM K.fs P.dir s).1).2)
section
variable {w w' : World} {B : Ix → Nat → Prop} {q : Nat} {K : Ker} {M : Mp} {c : Nat}
def chdirM (K : Ker) (n : Nat) (P : Prc) (s : ByteArray) : Int × Ker :=
  if (WalkM K.fs P.dir s).2 ≠ 0 then ((WalkM K.fs P.dir s).2, K)
  else if (StatM K.fs (WalkM K.fs P.dir s).1).2 ≠ 0 ∨ kindM K.fs (WalkM K.fs P.dir s).1 ≠ 2 then (20, K)
  else if MayM K.fs (WalkM K.fs P.dir s).1 1 = false then (13, K)
  else (0, setR (setF K (DropM (HoldM K.fs (WalkM K.fs P.dir s).1).2 P.dir).2) n { P with dir := (WalkM K.fs P.dir s).1.toNat })
end
end Go.Proofs.YtmilagppbepnbaaGreat.Kn
/- The kernel: chdir. Condition: it lies as stated. -/
namespace Go.Proofs.YtmilagppbepnbaaGreat.Kn
open Go.RowKit Go.PlainAid
set_option linter.unusedVariables false
set_option linter.unusedSimpArgs false
attribute [local go_sem] Oper.semAt_some
section
variable {w w' : World} {B : Ix → Nat → Prop} {q : Nat} {K K1 : Ker} {M : Mp} {c : Nat}
/-- What is seen behind a step. -/
theorem kp_see (hk : KP (AllX B) w K M w' q K1) {n : Nat} (hn : n ≤ K.lastR) {P1 : Prc} (hP : ask K1.procs n = some P1) : w'.cell? ⟨q, 0, none⟩ = some (.pointer (some ⟨M.fp, 0, none⟩)) ∧ Blk w' (M.br n) 84 (pcells P1 (M.bt n)).toArray := by
  obtain ⟨B', M', k1, k2, k3, k4, k5, k6, k7⟩ := hk
  obtain ⟨xv, dv, rv, o1, o2, ho⟩ : OwnIs w' (B' .own) q K1 M' := k1.part .own
  obtain ⟨hB, _⟩ : PrcAt w' (B' (.proc n)) (M'.br n) (M'.bt n) P1 := k1.part (.proc n) P1 hP
  rw [k2.br n hn, k2.bt n hn] at hB
  refine ⟨?_, hB⟩
  rw [← k2.fp]
  exact ho.blk.cell 0
/-- A process's cell turns behind a step. -/
theorem kp_pc (hk : KP (AllX B) w K M w' q K1) {n : Nat} (hn : n ≤ K.lastR) {P P' : Prc} (hP : ask K1.procs n = some P) (i : Nat) (v : Value) (hc : ∀ tb, (pcells P tb).toArray.setIfInBounds i v = (pcells P' tb).toArray) (ht : P'.tab = P.tab) : KP (AllX B) w K M (w'.setCell ⟨M.br n, i, none⟩ v) q (setR K1 n P') := by
  obtain ⟨B', M', k1, k2, k3, k4, k5, k6, k7⟩ := hk
  have := step_pc k1 hP i v hc ht
  rw [k2.br n hn] at this
  exact KP.trans k6 k7 k2 k3 k4 k5 this
theorem kp_below (hk : KP (AllX B) w K M w' q K1) {w2 : World} (hb : Below w'.heap.size w' w2) : KP (AllX B) w K M w2 q K1 := by
  obtain ⟨B', M', k1, k2, k3, k4, k5, k6, k7⟩ := hk
  exact ⟨B', M', k1.below hb, k2, k3, k4, k5, k6, k7.below hb⟩
theorem stat_some {f : Fs} {n : Int} (h : (StatM f n).2 = 0) : ∃ i : Nat, n = i := by
  unfold StatM at h
  cases hn : node f n with
  | none => rw [hn] at h; cases h
  | some I => obtain ⟨i, h1, _, h3⟩ := node_some hn; exact ⟨n.toNat, by omega⟩
set_option maxRecDepth 100000 in
set_option maxHeartbeats 8000000 in
theorem chdir_any (h : KerIs w B q K M) (hw : WF c K.fs) (hc : c ≤ 5000) {n : Nat} {P : Prc} (hP : ask K.procs n = some P) (s : ByteArray) (hs : s.size ≤ maxLen) (hw2 : WF c (HoldM K.fs (WalkM K.fs P.dir s).1).2) :
    Calls Tryz.prog 163 #[.pointer (some ⟨q, 0, none⟩), .pointer (some ⟨M.br n, 0, none⟩), .string s] w fun e w' => e = .returned (.int .i64 (chdirM K n P s).1) ∧ KP (AllX B) w K M w' q (chdirM K n P s).2 := by
  obtain ⟨hB, hT, hS1, hS2, hne⟩ : PrcAt w (B (.proc n)) (M.br n) (M.bt n) P := h.part (.proc n) P hP
  obtain ⟨xv, dv, rv, o1, o2, ho⟩ : OwnIs w (B .own) q K M := h.part .own
  have hnr := (h.num.lr _ (ask_mem hP)).2
  obtain ⟨b, hb⟩ : ∃ b, M.br n = b := ⟨_, rfl⟩
  obtain ⟨fp, hfp⟩ : ∃ fp, M.fp = fp := ⟨_, rfl⟩
  have kf : w.cell? ⟨q, 0, none⟩ = some (.pointer (some ⟨M.fp, 0, none⟩)) := ho.blk.cell 0
  rw [hb] at hB ⊢
  have k3 : w.cell? ⟨b, 3, none⟩ = some (.int .i64 P.dir) := hB.cell 3
  have hql := ho.blk.lt
  have hbl := hB.lt
  have hH := Lib.hid h
  have hPH := Lib.hid hP
  have hcH := Lib.hid hc
  have hw2H := Lib.hid hw2
  have hwk := Lib.hid (fun (W : World) (hW : Below w.heap.size w W) => fWalk_any (h.below hW) hw hc P.dir s hs)
  obtain ⟨i, hi⟩ : ∃ i, WalkM K.fs P.dir s = i := ⟨_, rfl⟩
  unfold chdirM
  rw [hi] at hwk hw2H ⊢
  obtain ⟨ino, err⟩ := i
  have hst := Lib.hid (fun (W : World) (hW : Below w.heap.size w W) => fStat_any (h.below hW) hw hc ino)
  have hmy := Lib.hid (fun (W : World) (hW : Below w.heap.size w W) => fMay_any (h.below hW) hw hc ino 1)
  have hhd := Lib.hid (fun (W : World) (hW : Below w.heap.size w W) => fHold_any (h.below hW) hw hc ino)
  have hbH := Lib.hid hb
  have hfpH := Lib.hid hfp
  rw [hfp] at kf hwk hst hmy hhd
  have kfd : w.drew.cell? ⟨q, 0, none⟩ = some (.pointer (some ⟨fp, 0, none⟩)) := kf
  have k3d : w.drew.cell? ⟨b, 3, none⟩ = some (.int .i64 P.dir) := k3
  dsimp only at hwk ⊢
  obtain ⟨a0, m0, l0, hse⟩ := stat_lit K.fs ino
  rw [hse] at hst
  have hss := Lib.hid (fun h0 => stat_some (f := K.fs) (n := ino) h0)
  obtain ⟨se, hsee⟩ : ∃ se, (StatM K.fs ino).2 = se := ⟨_, rfl⟩
  obtain ⟨kd, hkd⟩ : ∃ kd, kindM K.fs ino = kd := ⟨_, rfl⟩
  obtain ⟨my, hmye⟩ : ∃ my, MayM K.fs ino 1 = my := ⟨_, rfl⟩
  rw [hsee, hkd] at hst
  rw [hmye] at hmy
  rw [hsee] at hss
  rw [hsee, hkd, hmye]
  clear h hw hc hP hB hT hS1 hS2 hne ho hb hfp hi hse hsee hkd hmye hw2
  by_cases he : err = 0
  · subst he
    rw [if_neg (fun k => k rfl)]
    by_cases hse : se = 0
    · subst hse
      obtain ⟨i, rfl⟩ := hss.out rfl
      by_cases hkd : kd = 2
      · subst hkd
        rw [if_neg (by simp)]
        cases my with
        | false =>
          rw [if_pos rfl]
          clear hhd hss
          go_enter Tryz.func163, Tryz.ntmps163
          go_upto_region 1 with fail
          go_region_with (first | (go_at_call 147; refine (hwk.out w.drew (Below.refl _ _).drew).mono ?_; rintro e w1 ⟨rfl, hb1⟩; have hb1H : Hid (Below w.heap.size w w1) := Lib.hid ((Below.refl _ _).drew.trans hb1); clear hb1) | (go_at_call 147; refine (hwk.out w (Below.refl _ _)).mono ?_; rintro e w1 ⟨rfl, hb1⟩; have hb1H : Hid (Below w.heap.size w w1) := Lib.hid hb1; clear hb1))
          all_goals
            have g0 : w1.cell? ⟨q, 0, none⟩ = some (.pointer (some ⟨fp, 0, none⟩)) := (hb1H.out.cell hql).trans kf
            go_wp2_with (first
              | (go_at_call 148; refine (hst.out w1 hb1H.out).mono ?_; rintro e w2 ⟨rfl, hb2⟩; have hq2 := Nat.lt_of_lt_of_le hql (Nat.le_trans hb1H.out.size hb2.size); have hb2H : Hid (Below w.heap.size w w2) := Lib.hid (hb1H.out.trans (hb2.mono hb1H.out.size)); have g2 : w2.cell? ⟨q, 0, none⟩ = some (.pointer (some ⟨fp, 0, none⟩)) := (hb2H.out.cell hql).trans kf; clear hb2)
              | (go_at_call 205; refine (hmy.out _ (hb2H.out.alloc hb2H.out.size _)).mono ?_; rintro e w3 ⟨rfl, rfl⟩))
            go_ret
            exact ⟨rfl, KP.of hH.out (hb2H.out.alloc hb2H.out.size _)⟩
        | true =>
          rw [if_neg (by simp)]
          clear hss
          go_enter Tryz.func163, Tryz.ntmps163
          go_upto_region 1 with fail
          go_region_with (first | (go_at_call 147; refine (hwk.out w.drew (Below.refl _ _).drew).mono ?_; rintro e w1 ⟨rfl, hb1⟩; have hb1H : Hid (Below w.heap.size w w1) := Lib.hid ((Below.refl _ _).drew.trans hb1); clear hb1) | (go_at_call 147; refine (hwk.out w (Below.refl _ _)).mono ?_; rintro e w1 ⟨rfl, hb1⟩; have hb1H : Hid (Below w.heap.size w w1) := Lib.hid hb1; clear hb1))
          all_goals
            have g0 : w1.cell? ⟨q, 0, none⟩ = some (.pointer (some ⟨fp, 0, none⟩)) := (hb1H.out.cell hql).trans kf
            go_upto_region 10 with (first
              | (go_at_call 148; refine (hst.out w1 hb1H.out).mono ?_; rintro e w2 ⟨rfl, hb2⟩; have hq2 := Nat.lt_of_lt_of_le hql (Nat.le_trans hb1H.out.size hb2.size); have hb2H : Hid (Below w.heap.size w w2) := Lib.hid (hb1H.out.trans (hb2.mono hb1H.out.size)); have g2 : w2.cell? ⟨q, 0, none⟩ = some (.pointer (some ⟨fp, 0, none⟩)) := (hb2H.out.cell hql).trans kf; clear hb2)
              | (go_at_call 205; refine (hmy.out _ (hb2H.out.alloc hb2H.out.size _)).mono ?_; rintro e w3 ⟨rfl, rfl⟩)
              | (go_at_call 30; refine (hhd.out _ (hb2H.out.alloc hb2H.out.size _)).mono ?_; rintro e w4 ⟨rfl, hk4⟩; have hk4H := Lib.hid (KP.trans (K1 := K) (fun g hg => .inl hg) (Frm.of_below (hb2H.out.alloc hb2H.out.size _)) (MExt.refl _ _) (Nat.le_refl _) (Nat.le_refl _) (Nat.le_refl _) hk4); clear hk4))
            obtain ⟨y1, y2⟩ := kp_see hk4H.out hnr (show ask (setF K (HoldM K.fs (i : Int)).2).procs n = some P from hPH.out)
            rw [hfpH.out] at y1
            rw [hbH.out] at y2
            have g4 : w4.cell? ⟨q, 0, none⟩ = some (.pointer (some ⟨fp, 0, none⟩)) := y1
            have g4d : w4.drew.cell? ⟨q, 0, none⟩ = some (.pointer (some ⟨fp, 0, none⟩)) := y1
            have m4 : w4.cell? ⟨b, 3, none⟩ = some (.int .i64 P.dir) := y2.cell 3
            have m4d : w4.drew.cell? ⟨b, 3, none⟩ = some (.int .i64 P.dir) := y2.cell 3
            have hdp : Hid (∀ W : World, Below w4.heap.size w4 W → Calls Tryz.prog 228 #[.pointer (some ⟨fp, 0, none⟩), .int .i64 P.dir] W fun e w' => e = .returned (.int .i64 (DropM (HoldM K.fs (i : Int)).2 P.dir).1) ∧ KP (AllX B) w K M w' q (setF K (DropM (HoldM K.fs (i : Int)).2 P.dir).2)) := Lib.hid (by
              intro W hW
              obtain ⟨B4, M4, k1, k2, k3, k4, k5, k6, k7⟩ := hk4H.out
              have hD := fDrop_any (k1.below hW) (c := c) hw2H.out hcH.out P.dir
              rw [k2.fp, hfpH.out] at hD
              exact hD.mono fun e w' ⟨he, hp⟩ => ⟨he, KP.trans k6 (k7.below hW) k2 k3 k4 k5 hp⟩)
            clear y1 y2
            go_region_with (first | (go_at_call 228; refine (hdp.out w4.drew (Below.refl _ _).drew).mono ?_; rintro e w5 ⟨rfl, hk5⟩; have hk5H := Lib.hid hk5; clear hk5) | (go_at_call 228; refine (hdp.out w4 (Below.refl _ _)).mono ?_; rintro e w5 ⟨rfl, hk5⟩; have hk5H := Lib.hid hk5; clear hk5))
            all_goals
              obtain ⟨_, y2⟩ := kp_see hk5H.out hnr (show ask (setF K (DropM (HoldM K.fs (i : Int)).2 P.dir).2).procs n = some P from hPH.out)
              rw [hbH.out] at y2
              have v3 : w5.cell? ⟨b, 3, none⟩ = some (.int .i64 P.dir) := y2.cell 3
              have f3 : w5.frozen? ⟨b, 3, none⟩ = false := y2.frozen 3
              clear y2 g4 g4d m4 m4d
              go_wp2_with fail
              go_ret
              have := kp_pc hk5H.out hnr (show ask (setF K (DropM (HoldM K.fs (i : Int)).2 P.dir).2).procs n = some P from hPH.out) 3 (.int .i64 (i : Int)) (P' := { P with dir := i }) (fun _ => rfl) rfl
              rw [hbH.out] at this
              exact ⟨rfl, this⟩
      · rw [if_pos (.inr hkd)]
        have dk : ((kd : Int) == 2) = false := by rw [beq_eq_false_iff_ne]; omega
        clear hss hmy hhd
        go_enter Tryz.func163, Tryz.ntmps163
        go_upto_region 1 with fail
        go_region_with (first | (go_at_call 147; refine (hwk.out w.drew (Below.refl _ _).drew).mono ?_; rintro e w1 ⟨rfl, hb1⟩; have hb1H : Hid (Below w.heap.size w w1) := Lib.hid ((Below.refl _ _).drew.trans hb1); clear hb1) | (go_at_call 147; refine (hwk.out w (Below.refl _ _)).mono ?_; rintro e w1 ⟨rfl, hb1⟩; have hb1H : Hid (Below w.heap.size w w1) := Lib.hid hb1; clear hb1))
        all_goals
          have g0 : w1.cell? ⟨q, 0, none⟩ = some (.pointer (some ⟨fp, 0, none⟩)) := (hb1H.out.cell hql).trans kf
          go_wp2_with (go_at_call 148; refine (hst.out w1 hb1H.out).mono ?_; rintro e w2 ⟨rfl, hb2⟩; have hq2 := Nat.lt_of_lt_of_le hql (Nat.le_trans hb1H.out.size hb2.size); have hb2H : Hid (Below w.heap.size w w2) := Lib.hid (hb1H.out.trans (hb2.mono hb1H.out.size)); have g2 : w2.cell? ⟨q, 0, none⟩ = some (.pointer (some ⟨fp, 0, none⟩)) := (hb2H.out.cell hql).trans kf; clear hb2)
          go_ret
          exact ⟨rfl, KP.of hH.out (hb2H.out.alloc hb2H.out.size _)⟩
    · rw [if_pos (.inl hse)]
      have d0 : ((se : Int) == 0) = false := by rw [beq_eq_false_iff_ne]; omega
      clear hss hmy hhd
      go_enter Tryz.func163, Tryz.ntmps163
      go_upto_region 1 with fail
      go_region_with (first | (go_at_call 147; refine (hwk.out w.drew (Below.refl _ _).drew).mono ?_; rintro e w1 ⟨rfl, hb1⟩; have hb1H : Hid (Below w.heap.size w w1) := Lib.hid ((Below.refl _ _).drew.trans hb1); clear hb1) | (go_at_call 147; refine (hwk.out w (Below.refl _ _)).mono ?_; rintro e w1 ⟨rfl, hb1⟩; have hb1H : Hid (Below w.heap.size w w1) := Lib.hid hb1; clear hb1))
      all_goals
        have g0 : w1.cell? ⟨q, 0, none⟩ = some (.pointer (some ⟨fp, 0, none⟩)) := (hb1H.out.cell hql).trans kf
        go_wp2_with (go_at_call 148; refine (hst.out w1 hb1H.out).mono ?_; rintro e w2 ⟨rfl, hb2⟩; have hq2 := Nat.lt_of_lt_of_le hql (Nat.le_trans hb1H.out.size hb2.size); have hb2H : Hid (Below w.heap.size w w2) := Lib.hid (hb1H.out.trans (hb2.mono hb1H.out.size)); have g2 : w2.cell? ⟨q, 0, none⟩ = some (.pointer (some ⟨fp, 0, none⟩)) := (hb2H.out.cell hql).trans kf; clear hb2)
        go_ret
        exact ⟨rfl, KP.of hH.out (hb2H.out.alloc hb2H.out.size _)⟩
  · rw [if_pos he]
    have d1 : ((err : Int) == 0) = false := by rw [beq_eq_false_iff_ne]; omega
    clear hss hmy hhd hst
    go_enter Tryz.func163, Tryz.ntmps163
    go_upto_region 1 with fail
    go_region_with (first | (go_at_call 147; refine (hwk.out w.drew (Below.refl _ _).drew).mono ?_; rintro e w1 ⟨rfl, hb1⟩; have hb1H : Hid (Below w.heap.size w w1) := Lib.hid ((Below.refl _ _).drew.trans hb1); clear hb1) | (go_at_call 147; refine (hwk.out w (Below.refl _ _)).mono ?_; rintro e w1 ⟨rfl, hb1⟩; have hb1H : Hid (Below w.heap.size w w1) := Lib.hid hb1; clear hb1))
    all_goals
      go_wp2_with fail
      go_ret
      exact ⟨rfl, KP.of hH.out hb1H.out⟩
end
end Go.Proofs.YtmilagppbepnbaaGreat.Kn
/- The kernel: what fork does, plain. No condition. -/
namespace Go.Proofs.YtmilagppbepnbaaGreat.Kn
open Go.RowKit Go.PlainAid
set_option linter.unusedVariables false
set_option linter.unusedSimpArgs false
/-- Each of these names one more. -/
def incL (K : Ker) (l : List (Fin 32 × Int)) : Ker := l.foldl (fun K x => incM K x.2.toNat) K
theorem incL_snoc (K : Ker) (l : List (Fin 32 × Int)) (x : Fin 32 × Int) : incL K (l ++ [x]) = incM (incL K l) x.2.toNat := by unfold incL; rw [List.foldl_append]; rfl
theorem incM_eq (K : Ker) (m : Nat) : (incM K m).fs = K.fs ∧ (incM K m).pipes = K.pipes ∧ (incM K m).procs = K.procs ∧ (incM K m).lastX = K.lastX ∧ (incM K m).lastD = K.lastD ∧ (incM K m).lastR = K.lastR := by
  unfold incM
  split <;> exact ⟨rfl, rfl, rfl, rfl, rfl, rfl⟩
theorem incL_eq (K : Ker) : ∀ l : List (Fin 32 × Int), (incL K l).fs = K.fs ∧ (incL K l).pipes = K.pipes ∧ (incL K l).procs = K.procs ∧ (incL K l).lastX = K.lastX ∧ (incL K l).lastD = K.lastD ∧ (incL K l).lastR = K.lastR := by
  intro l
  induction l generalizing K with
  | nil => exact ⟨rfl, rfl, rfl, rfl, rfl, rfl⟩
  | cons x l ih =>
    obtain ⟨a, b, c, d, e, f⟩ := ih (incM K x.2.toNat)
    obtain ⟨a', b', c', d', e', f'⟩ := incM_eq K x.2.toNat
    show (incL (incM K x.2.toNat) l).fs = _ ∧ _
    exact ⟨a.trans a', b.trans b', c.trans c', d.trans d', e.trans e', f.trans f'⟩
theorem incM_ask {K : Ker} {m : Nat} (j : Nat) {D : Dsc} (h : ask K.descs j = some D) : ask (incM K m).descs j = some (if j = m then { D with refs := D.refs + 1 } else D) := by
  unfold incM
  cases hm : ask K.descs m with
  | none =>
    dsimp only
    rw [if_neg (fun e => by rw [← e, h] at hm; cases hm)]
    exact h
  | some E =>
    show ask (put1 K.descs m _) j = _
    rw [ask_put hm]
    by_cases e : j = m
    · rw [if_pos e, if_pos e]
      rw [e, hm] at h
      cases h
      rfl
    · rw [if_neg e, if_neg e]
      exact h
theorem incL_has {K : Ker} (l : List (Fin 32 × Int)) {j : Nat} {D : Dsc} (h : ask K.descs j = some D) : ∃ n : Nat, n ≤ l.length ∧ ask (incL K l).descs j = some { D with refs := D.refs + n } := by
  induction l generalizing K D with
  | nil => exact ⟨0, Nat.le_refl _, by simp only [Int.natCast_zero, Int.add_zero]; exact h⟩
  | cons x l ih =>
    have h1 := incM_ask (m := x.2.toNat) j h
    by_cases e : j = x.2.toNat
    · rw [if_pos e] at h1
      obtain ⟨n, hn, hk⟩ := ih h1
      refine ⟨n + 1, by simp; omega, ?_⟩
      show ask (incL (incM K x.2.toNat) l).descs j = _
      rw [hk]
      dsimp only
      rw [show D.refs + 1 + (n : Int) = D.refs + ((n + 1 : Nat) : Int) by push_cast; omega]
    · rw [if_neg e] at h1
      obtain ⟨n, hn, hk⟩ := ih h1
      exact ⟨n, by simp; omega, hk⟩
def kidP (K : Ker) (P : Prc) : Prc := ⟨K.lastR + 1, P.num, P.tab, P.dir, P.mask, false, 0⟩
/-- fork: the new process's number, the error, what is left. -/
def forkM (K : Ker) (P : Prc) : Int × Int × Ker :=
  if 24 ≤ K.procs.length then (0, 11, K)
  else ((K.lastR : Int) + 1, 0, putR (setF (incL K (Pp.upto P.tab 32)) (HoldM K.fs P.dir).2) (kidP K P))
theorem setR_put {K : Ker} (hn : ∀ p ∈ K.procs, 1 ≤ p.1 ∧ p.1 ≤ K.lastR) (P Q : Prc) : setR (putR K P) (K.lastR + 1) Q = putR K Q := by
  unfold setR putR put1
  dsimp only
  rw [List.map_append]
  have : K.procs.map (fun p => if p.1 = K.lastR + 1 then (K.lastR + 1, Q) else p) = K.procs := by
    conv => rhs; rw [← List.map_id K.procs]
    refine List.map_congr_left (fun p hp => ?_)
    rw [if_neg (by have := (hn p hp).2; omega)]
    rfl
  rw [this]
  simp
end Go.Proofs.YtmilagppbepnbaaGreat.Kn
/- The kernel: newPipe, dup2. Condition: it lies as stated; ends' pipes have numbers that were given. -/
namespace Go.Proofs.YtmilagppbepnbaaGreat.Kn
open Go.RowKit Go.PlainAid
set_option linter.unusedVariables false
set_option linter.unusedSimpArgs false
attribute [local go_sem] Oper.semAt_some
def endD (k z : Nat) : Dsc := ⟨k, z, 0, 0, 0, some z, ⟨#[]⟩⟩
def npipeM (K : Ker) (n : Nat) (P : Prc) : Int × Int × Int × Ker :=
  if tfreeM P.tab < 2 then (0, 0, 24, K)
  else
    let K4 := putX K ⟨64, 1, 1, []⟩
    let P5 : Prc := { P with tab := (tputM P.tab ((K.lastD : Int) + 1) 0).2.2 }
    let K5 := instM K4 n P (endD 3 (K.lastX + 1))
    ((tputM P.tab ((K.lastD : Int) + 1) 0).1, (tputM P5.tab ((K5.lastD : Int) + 1) 0).1, 0, instM K5 n P5 (endD 4 (K.lastX + 1)))
section
variable {w w' : World} {B : Ix → Nat → Prop} {q : Nat} {K : Ker} {M : Mp} {c : Nat}
theorem inst_ask {K : Ker} {n : Nat} {P : Prc} (hP : ask K.procs n = some P) (D : Dsc) : ask (instM K n P D).procs n = some { P with tab := (tputM P.tab ((K.lastD : Int) + 1) 0).2.2 } := by
  show ask (put1 K.procs n _) n = _
  rw [ask_put hP, if_pos rfl]
theorem proc_le (h : Nmb K) {n : Nat} {P : Prc} (hP : ask K.procs n = some P) : n ≤ K.lastR := (h.lr _ (ask_mem hP)).2
/-- install, of a description that has just been made. -/
theorem inst_new (h : KerIs w B q K M) {n : Nat} {P : Prc} (hP : ask K.procs n = some P) (D : Dsc) (hlast : K.lastD < 90000) (v : Value) (hv : ptrV (D.pipe.map M.bx) = v) (W : World) (hW : Below w.heap.size w W) :
    Calls Tryz.prog 31 #[.pointer (some ⟨q, 0, none⟩), .pointer (some ⟨M.br n, 0, none⟩), .pointer (some ⟨W.heap.size, 0, none⟩)] (W.alloc (.cells #[.int .i64 D.kind, .int .i64 D.n, .int .i64 D.at_, .int .i64 D.refs, .int .i64 D.flags, v, .string D.text] 91)) fun e w' => e = .returned (.int .i64 (tputM P.tab ((K.lastD : Int) + 1) 0).1) ∧ KP (AllX B) w K M w' q (instM K n P D) := by
  have hk := h.below hW
  refine (install_any (w := W.alloc (.cells #[.int .i64 D.kind, .int .i64 D.n, .int .i64 D.at_, .int .i64 D.refs, .int .i64 D.flags, v, .string D.text] 91)) (S := fun g => g = W.heap.size) (b := W.heap.size) (D := D) (hk.below ((Below.refl _ _).alloc (Nat.le_refl _) _)) hP ⟨by rw [← hv]; exact Blk.new W _ _, rfl⟩ (fun j g hg e => by
    have := hk.lt j g hg
    omega) (fun g hg => by rw [hg, World.size_alloc]; omega) hlast).mono fun e w2 ⟨he, hk2⟩ => ⟨he, ?_⟩
  obtain ⟨B2, M2, k1, k2, k3, k4, k5, k6, k7⟩ := hk2
  have hsz := hW.size
  have hO : ∀ g, (AllX B g ∨ g = W.heap.size) → AllX B g ∨ w.heap.size ≤ g := fun g hg => hg.imp_right (fun e => by rw [e]; exact hsz)
  have hF1 : Frm (AllX B) w (W.alloc (.cells #[.int .i64 D.kind, .int .i64 D.n, .int .i64 D.at_, .int .i64 D.refs, .int .i64 D.flags, v, .string D.text] 91)) := (Frm.of_below hW).alloc _
  exact ⟨B2, M2, k1, k2, k3, k4, k5, fun g hg => (k6 g hg).elim (hO g) (fun h9 => .inr (by rw [World.size_alloc] at h9; omega)), hF1.trans hO k7⟩
set_option maxRecDepth 100000 in
set_option maxHeartbeats 4000000 in
theorem newPipe_any (h : KerIs w B q K M) {n : Nat} {P : Prc} (hP : ask K.procs n = some P) (hlast : K.lastD < 80000) (hlx : K.lastX < 80000) (hpp : ∀ m y, ask K.descs m = some y → ∀ z, y.pipe = some z → z ≤ K.lastX) :
    Calls Tryz.prog 143 #[.pointer (some ⟨q, 0, none⟩), .pointer (some ⟨M.br n, 0, none⟩)] w fun e w' => e = .returned (.tuple #[.int .i64 (npipeM K n P).1, .int .i64 (npipeM K n P).2.1, .int .i64 (npipeM K n P).2.2.1]) ∧ KP (AllX B) w K M w' q (npipeM K n P).2.2.2 := by
  obtain ⟨hB, hT, hS1, hS2, hne⟩ : PrcAt w (B (.proc n)) (M.br n) (M.bt n) P := h.part (.proc n) P hP
  obtain ⟨b, hb⟩ : ∃ b, M.br n = b := ⟨_, rfl⟩
  obtain ⟨tb, htb⟩ : ∃ tb, M.bt n = tb := ⟨_, rfl⟩
  have hfree := Lib.hid (Pp.free_any w hT)
  rw [htb] at hB hfree
  have c2 : w.cell? ⟨b, 2, none⟩ = some (.pointer (some ⟨tb, 0, none⟩)) := by rw [← hb]; exact hB.cell 2
  have hH := Lib.hid h
  have hPH := Lib.hid hP
  have hbH := Lib.hid hb
  have hppH := Lib.hid hpp
  by_cases he : tfreeM P.tab < 2
  · have hl : npipeM K n P = (0, 0, 24, K) := by unfold npipeM; rw [if_pos he]
    rw [hl]
    dsimp only
    obtain ⟨fr, hfr⟩ : ∃ fr, (32 - ((Pp.upto P.tab 32).length : Int)) = fr := ⟨_, rfl⟩
    have he' : decide (fr < 2) = true := decide_eq_true (by rw [← hfr]; exact he)
    rw [hfr] at hfree
    rw [hb]
    clear h hP htb hb hB hT hS1 hS2 hne hl he hfr hpp
    go_enter Tryz.func143, Tryz.ntmps143
    go_wp2_with (go_at_call 194; refine hfree.out.mono ?_; rintro e w1 ⟨rfl, hb1⟩)
    refine bodyPost_ret (results_tmp3 rfl _ _ _) rfl ?_
    exact ⟨rfl, KP.of hH.out hb1⟩
  · have hl : Hid (npipeM K n P = ((tputM P.tab ((K.lastD : Int) + 1) 0).1, (tputM (tputM P.tab ((K.lastD : Int) + 1) 0).2.2 (((instM (putX K ⟨64, 1, 1, []⟩) n P (endD 3 (K.lastX + 1))).lastD : Int) + 1) 0).1, 0, instM (instM (putX K ⟨64, 1, 1, []⟩) n P (endD 3 (K.lastX + 1))) n { P with tab := (tputM P.tab ((K.lastD : Int) + 1) 0).2.2 } (endD 4 (K.lastX + 1)))) := Lib.hid (by unfold npipeM; rw [if_neg he])
    rw [hl.out]
    dsimp only
    obtain ⟨fr, hfr⟩ : ∃ fr, (32 - ((Pp.upto P.tab 32).length : Int)) = fr := ⟨_, rfl⟩
    have he' : decide (fr < 2) = false := decide_eq_false (by rw [← hfr]; exact he)
    rw [hfr] at hfree
    rw [hb]
    clear h hP htb hb hB hT hS1 hS2 hne hl he hfr hpp
    go_enter Tryz.func143, Tryz.ntmps143
    go_upto_region 6 with (first
      | (go_at_call 194; refine hfree.out.mono ?_; rintro e w1 ⟨rfl, hb1⟩; have hb1H := Lib.hid hb1; clear hb1)
      | (go_at_call 200; refine (Pp.new_yes 64 (by decide) (by decide) w1).mono ?_; rintro e w2 ⟨rfl, hP2, hb2⟩; have hP2H := Lib.hid hP2; have hb2H := Lib.hid hb2; clear hP2 hb2)
      | (go_at_call 201; refine (Pp.open_any true w3 hP3H.out (by decide) (by decide)).mono ?_; rintro e w4 ⟨rfl, hP4, hF4⟩; have hP4H := Lib.hid hP4; have hF4H := Lib.hid hF4; clear hP4 hF4)
      | (go_at_call 201; refine (Pp.open_any false w2 hP2H.out (by decide) (by decide)).mono ?_; rintro e w3 ⟨rfl, hP3, hF3⟩; have hP3H := Lib.hid hP3; have hF3H := Lib.hid hF3; clear hP3 hF3))
    obtain ⟨pp, hpe⟩ : ∃ pp, w1.heap.size + 2 = pp := ⟨_, rfl⟩
    obtain ⟨rb, hre⟩ : ∃ rb, w1.heap.size + 1 = rb := ⟨_, rfl⟩
    have hP4 := hP4H.out
    have hF3 := hF3H.out
    have hF4 := hF4H.out
    rw [hpe, hre] at hP4 hF3 hF4
    have hlt1 : ∀ i g, B i g → g < w1.heap.size := fun i g hg => Nat.lt_of_lt_of_le (hH.out.lt i g hg) hb1H.out.size
    have h2 := (hH.out.below hb1H.out).below hb2H.out
    have h3 : KerIs w3 B q K M := h2.keep hF3.size (fun i g hg => hF3.block g (h2.lt i g hg) (by have := hlt1 i g hg; omega) (by have := hlt1 i g hg; omega))
    have h4 : KerIs w4 B q K M := h3.keep hF4.size (fun i g hg => hF4.block g (h3.lt i g hg) (by have := hlt1 i g hg; omega) (by have := hlt1 i g hg; omega))
    have hwle : w.heap.size ≤ w1.heap.size := hb1H.out.size
    have hpge : w.heap.size ≤ pp := by omega
    have hrge : w.heap.size ≤ rb := by omega
    have hF14 : Frm (AllX B) w w4 := by
      have a1 : Frm (AllX B) w w2 := (Frm.of_below hb1H.out).below hb2H.out
      have a2 := a1.trans (O1 := fun g => g = pp ∨ g = rb) (fun g hg => .inr (by omega)) (frm_of_pp hF3 (.inl rfl) (.inr rfl))
      exact a2.trans (O1 := fun g => g = pp ∨ g = rb) (fun g hg => .inr (by omega)) (frm_of_pp hF4 (.inl rfl) (.inr rfl))
    have hput := putX_any h4 (S := fun g => g = pp ∨ g = rb) (b := pp) (x := ⟨64, 1, 1, []⟩) ⟨rb, hP4, .inl rfl, .inr rfl⟩ (fun j g hg hh => by have := hlt1 j g hg; omega) (fun g hg => by
      rcases hg with e | e
      · rw [e]; exact hP4.ltP
      · rw [e]; exact hP4.ltB) (by omega) hppH.out
    obtain ⟨z, hz⟩ : ∃ z, K.lastX + 1 = z := ⟨_, rfl⟩
    rw [show ((K.lastX : Int) + 1) = (z : Int) by rw [← hz]; rfl] at hput
    have hputH := Lib.hid hput
    have hzH := Lib.hid hz
    have hF14H := Lib.hid hF14
    have hpeH := Lib.hid hpe
    have h4H := Lib.hid h4
    have hw14 : w.heap.size ≤ w4.heap.size := hF14.size
    rw [hpe]
    clear hP4 hF3 hF4 hlt1 h2 h3 h4 hF14 hput hz hpe hre hP2H hP3H hP4H hF3H hF4H hb2H hwle
    go_upto_region 7 with (go_at_call 202; refine hputH.out.mono ?_; rintro e w5 ⟨rfl, B5, hk5, ho5, hF5, _⟩; have hk5H := Lib.hid hk5; have ho5H := Lib.hid ho5; have hF5H := Lib.hid hF5; clear hk5 ho5 hF5)
    obtain ⟨M5, hM5⟩ : ∃ M5, mpX M K pp = M5 := ⟨_, rfl⟩
    have e5 : MExt K M M5 := by rw [← hM5]; exact ext_mpX M K pp
    have hbr5 : M5.br n = b := by rw [← hM5]; exact hbH.out
    have hbx5 : M5.bx z = pp := by rw [← hM5, ← hzH.out]; show upN M.bx (K.lastX + 1) pp (K.lastX + 1) = pp; unfold upN; rw [if_pos rfl]
    have hk5 := hk5H.out
    rw [hM5] at hk5
    obtain ⟨K5, hK5⟩ : ∃ K5, putX K ⟨64, 1, 1, []⟩ = K5 := ⟨_, rfl⟩
    have hn5 : K5.lastX = z ∧ K5.lastD = K.lastD ∧ K5.lastR = K.lastR ∧ K5.procs = K.procs := by rw [← hK5, ← hzH.out]; exact ⟨rfl, rfl, rfl, rfl⟩
    rw [hK5] at hk5
    have hK5H := Lib.hid hK5
    have hc5 : Cur (AllX B) w K M q w5 K5 B5 M5 := ⟨hk5, e5, by rw [hn5.1, ← hzH.out]; exact Nat.le_succ _, by rw [hn5.2.1]; exact Nat.le_refl _, by rw [hn5.2.2.1]; exact Nat.le_refl _, fun g hg => by
      rcases ho5H.out g hg with (h6 | h6) | h6
      · exact .inl h6
      · right
        have h7 : g = pp ∨ g = rb := h6
        rcases h7 with h7 | h7 <;> omega
      · exact .inr (Nat.le_trans hw14 h6), hF14H.out.trans (fun g hg => .inl ⟨_, hg⟩) hF5H.out⟩
    have hP5 : ask K5.procs n = some P := by rw [hn5.2.2.2]; exact hPH.out
    have hi5 := Lib.hid (fun (W : World) (hW : Below w5.heap.size w5 W) => inst_new hk5 hP5 (endD 3 z) (by rw [hn5.2.1]; omega) (.pointer (some ⟨pp, 0, none⟩)) (by show ptrV (some (M5.bx z)) = _; rw [hbx5]; rfl) W hW)
    rw [hbr5] at hi5
    have hc5H := Lib.hid hc5
    have hP5H := Lib.hid hP5
    have hn5H := Lib.hid hn5
    have hbr5H := Lib.hid hbr5
    have hbx5H := Lib.hid hbx5
    have hrle : Hid (n ≤ K.lastR) := Lib.hid (proc_le hH.out.num hPH.out)
    clear hk5 hc5 hP5 hn5 hK5 hbr5 hbx5 e5 hM5 hputH hk5H ho5H hF5H h4H
    go_upto_region 8 with (go_at_call 31; refine (hi5.out _ (Below.refl _ _)).mono ?_; rintro e w6 ⟨rfl, hk6⟩; have hk6H := Lib.hid hk6; clear hk6)
    obtain ⟨K6, hK6⟩ : ∃ K6, instM K5 n P (endD 3 z) = K6 := ⟨_, rfl⟩
    have hk6 := hk6H.out
    rw [hK6] at hk6
    obtain ⟨B6, M6, hc6, he6, hx6, hd6, hr6⟩ := hc5H.out.next hk6
    have hP6 : ask K6.procs n = some { P with tab := (tputM P.tab ((K5.lastD : Int) + 1) 0).2.2 } := by rw [← hK6]; exact inst_ask hP5H.out _
    have hn6 : K6.lastD = K5.lastD + 1 := by rw [← hK6]; rfl
    have hbr6 : M6.br n = b := by rw [he6.br n (by rw [hn5H.out.2.2.1]; exact hrle.out)]; exact hbr5H.out
    have hbx6 : M6.bx z = pp := by rw [he6.bx z (by rw [hn5H.out.1]; exact Nat.le_refl _)]; exact hbx5H.out
    have hi6 := Lib.hid (fun (W : World) (hW : Below w6.heap.size w6 W) => inst_new hc6.is_ hP6 (endD 4 z) (by rw [hn6, hn5H.out.2.1]; omega) (.pointer (some ⟨pp, 0, none⟩)) (by show ptrV (some (M6.bx z)) = _; rw [hbx6]; rfl) W hW)
    rw [hbr6] at hi6
    have hc6H := Lib.hid hc6
    have hK6H := Lib.hid hK6
    have hn6H := Lib.hid hn6
    clear hc6 he6 hP6 hbr6 hbx6 hk6 hK6 hk6H hi5
    go_wp2_with (go_at_call 31; refine (hi6.out _ (Below.refl _ _)).mono ?_; rintro e w7 ⟨rfl, hk7⟩; have hk7H := Lib.hid hk7; clear hk7)
    refine bodyPost_ret (results_tmp3 rfl _ _ _) rfl ?_
    obtain ⟨B7, M7, hc7, _⟩ := hc6H.out.next hk7H.out
    have hD : (K5.lastD : Int) = (K.lastD : Int) := by rw [hn5H.out.2.1]
    have hkp := hc7.kp
    rw [hzH.out, hK5H.out, hK6H.out]
    rw [hD] at hkp ⊢
    have hD6 : (K6.lastD : Int) = (K.lastD : Int) + 1 := by rw [hn6H.out, hn5H.out.2.1]; rfl
    rw [hD6]
    exact ⟨rfl, hkp⟩
end
end Go.Proofs.YtmilagppbepnbaaGreat.Kn
/- The kernel's counts, in plain data: what every call keeps. No condition. -/
namespace Go.Proofs.YtmilagppbepnbaaGreat.Kn
open Go.RowKit Go.PlainAid
set_option linter.unusedVariables false
set_option linter.unusedSimpArgs false
/-! ### Sums -/
def sumN (g : Nat → Nat) : Nat → Nat
  | 0 => 0
  | k + 1 => sumN g k + g k
theorem sumN_congr {g g' : Nat → Nat} : ∀ k, (∀ i, i < k → g i = g' i) → sumN g k = sumN g' k
  | 0, _ => rfl
  | k + 1, h => by
    show sumN g k + g k = sumN g' k + g' k
    rw [sumN_congr k (fun i hi => h i (by omega)), h k (by omega)]
theorem sumN_one {g g' : Nat → Nat} {i : Nat} : ∀ k, i < k → (∀ j, j ≠ i → g' j = g j) → sumN g' k + g i = sumN g k + g' i
  | 0, h, _ => by omega
  | k + 1, h, he => by
    show sumN g' k + g' k + g i = sumN g k + g k + g' i
    by_cases e : i = k
    · subst e
      rw [sumN_congr (g := g') (g' := g) i (fun j hj => he j (by omega))]
      omega
    · have := sumN_one (g := g) (g' := g') k (by omega) he
      rw [he k (fun h => e h.symm)]
      omega
theorem sumN_le {g : Nat → Nat} {b : Nat} : ∀ k, (∀ i, i < k → g i ≤ b) → sumN g k ≤ k * b
  | 0, _ => by show 0 ≤ _; omega
  | k + 1, h => by
    have h1 := sumN_le k (fun i hi => h i (by omega))
    have h2 := h k (by omega)
    show sumN g k + g k ≤ (k + 1) * b
    rw [Nat.succ_mul]
    omega
theorem sumN_ge {g : Nat → Nat} {i : Nat} : ∀ k, i < k → g i ≤ sumN g k
  | 0, h => by omega
  | k + 1, h => by
    show g i ≤ sumN g k + g k
    by_cases e : i = k
    · subst e; omega
    · have := sumN_ge (g := g) k (show i < k by omega); omega
theorem sumN_zero {g : Nat → Nat} : ∀ k, (∀ i, i < k → g i = 0) → sumN g k = 0
  | 0, _ => rfl
  | k + 1, h => by
    show sumN g k + g k = 0
    rw [sumN_zero k (fun i hi => h i (by omega)), h k (by omega)]
section
variable {X : Type}
def wsum (f : X → Nat) : List (Nat × X) → Nat
  | [] => 0
  | p :: t => f p.2 + wsum f t
theorem wsum_app (f : X → Nat) (l t : List (Nat × X)) : wsum f (l ++ t) = wsum f l + wsum f t := by
  induction l with
  | nil => show _ = 0 + _; rw [Nat.zero_add]; rfl
  | cons p l ih => show f p.2 + wsum f (l ++ t) = f p.2 + wsum f l + wsum f t; rw [ih]; omega
theorem wsum_le {f : X → Nat} {b : Nat} (l : List (Nat × X)) (h : ∀ p ∈ l, f p.2 ≤ b) : wsum f l ≤ l.length * b := by
  induction l with
  | nil => exact Nat.zero_le _
  | cons p l ih =>
    have h1 := ih (fun q hq => h q (List.mem_cons_of_mem _ hq))
    have h2 := h p (List.mem_cons_self ..)
    show f p.2 + wsum f l ≤ (l.length + 1) * b
    rw [Nat.succ_mul]
    omega
theorem wsum_mem {f : X → Nat} {l : List (Nat × X)} {p : Nat × X} (h : p ∈ l) : f p.2 ≤ wsum f l := by
  induction l with
  | nil => cases h
  | cons q l ih =>
    show _ ≤ f q.2 + wsum f l
    rcases List.mem_cons.1 h with e | e
    · subst e; omega
    · have := ih e; omega
theorem wsum_zero {f : X → Nat} (l : List (Nat × X)) (h : ∀ p ∈ l, f p.2 = 0) : wsum f l = 0 := by
  induction l with
  | nil => rfl
  | cons p l ih =>
    show f p.2 + wsum f l = 0
    rw [h p (List.mem_cons_self ..), ih (fun q hq => h q (List.mem_cons_of_mem _ hq))]
theorem ord_tail {p : Nat × X} {l : List (Nat × X)} (h : OrdK (p :: l)) : OrdK l ∧ ∀ q ∈ l, q.1 ≠ p.1 := by
  unfold OrdK at h
  rw [List.map_cons, List.pairwise_cons] at h
  exact ⟨h.2, fun q hq e => by have := h.1 q.1 (List.mem_map.2 ⟨q, hq, rfl⟩); omega⟩
theorem put1_far {l : List (Nat × X)} {n : Nat} (x : X) (h : ∀ q ∈ l, q.1 ≠ n) : put1 l n x = l := by
  unfold put1
  conv => rhs; rw [← List.map_id l]
  exact List.map_congr_left (fun q hq => by rw [if_neg (h q hq)]; rfl)
theorem cut1_far {l : List (Nat × X)} {n : Nat} (h : ∀ q ∈ l, q.1 ≠ n) : cut1 l n = l := by
  unfold cut1
  exact List.filter_eq_self.2 (fun q hq => by simpa using h q hq)
theorem wsum_put {f : X → Nat} {l : List (Nat × X)} (ho : OrdK l) {n : Nat} {x y : X} (h : ask l n = some y) : wsum f (put1 l n x) + f y = wsum f l + f x := by
  induction l with
  | nil => cases h
  | cons p t ih =>
    obtain ⟨h1, h2⟩ := ord_tail ho
    unfold ask at h
    by_cases e : p.1 = n
    · rw [if_pos e] at h
      cases h
      have : put1 (p :: t) n x = (n, x) :: t := by
        show (if p.1 = n then (n, x) else p) :: put1 t n x = _
        rw [if_pos e, put1_far x (fun q hq => e ▸ h2 q hq)]
      rw [this]
      show f x + wsum f t + f p.2 = f p.2 + wsum f t + f x
      omega
    · rw [if_neg e] at h
      have := ih h1 h
      show wsum f ((if p.1 = n then (n, x) else p) :: put1 t n x) + f y = f p.2 + wsum f t + f x
      rw [if_neg e]
      show f p.2 + wsum f (put1 t n x) + f y = f p.2 + wsum f t + f x
      omega
theorem wsum_cut {f : X → Nat} {l : List (Nat × X)} (ho : OrdK l) {n : Nat} {y : X} (h : ask l n = some y) : wsum f (cut1 l n) + f y = wsum f l := by
  induction l with
  | nil => cases h
  | cons p t ih =>
    obtain ⟨h1, h2⟩ := ord_tail ho
    unfold ask at h
    by_cases e : p.1 = n
    · rw [if_pos e] at h
      cases h
      have : cut1 (p :: t) n = t := by
        unfold cut1
        rw [List.filter_cons_of_neg (by simp [e])]
        exact cut1_far (fun q hq => e ▸ h2 q hq)
      rw [this]
      show wsum f t + f p.2 = f p.2 + wsum f t
      omega
    · rw [if_neg e] at h
      have := ih h1 h
      have h3 : cut1 (p :: t) n = p :: cut1 t n := by unfold cut1; rw [List.filter_cons_of_pos (by simp [e])]
      rw [h3]
      show f p.2 + wsum f (cut1 t n) + f y = f p.2 + wsum f t
      omega
theorem wsum_ask {f : X → Nat} {l : List (Nat × X)} {n : Nat} {y : X} (h : ask l n = some y) : f y ≤ wsum f l := wsum_mem (ask_mem h)
end
/-! ### Names -/
/-- Does a slot name m? -/
def nm (s : Pp.Sl) (m : Nat) : Nat := if s.tk = true ∧ s.x = (m : Int) then 1 else 0
def slots (f : Nat → Pp.Sl) (m : Nat) : Nat := sumN (fun i => nm (f i) m) 32
theorem nm_le (s : Pp.Sl) (m : Nat) : nm s m ≤ 1 := by unfold nm; split <;> omega
theorem nm_none (m : Nat) : nm Pp.Sl.none m = 0 := by unfold nm Pp.Sl.none; simp
theorem nm_of {s : Pp.Sl} {m : Nat} (h : s.tk = true) (hx : s.x = (m : Int)) (k : Nat) : nm s k = if k = m then 1 else 0 := by
  unfold nm
  by_cases e : k = m
  · rw [if_pos ⟨h, by rw [hx, e]⟩, if_pos e]
  · rw [if_neg (fun h2 => e (by have := h2.2; omega)), if_neg e]
theorem nm_no {s : Pp.Sl} (h : s.tk = false) (k : Nat) : nm s k = 0 := by unfold nm; rw [if_neg (fun h2 => by rw [h] at h2; cases h2.1)]
theorem slots_le (f : Nat → Pp.Sl) (m : Nat) : slots f m ≤ 32 := sumN_le (b := 1) 32 (fun i _ => nm_le _ _)
theorem slots_upd (f : Nat → Pp.Sl) {i : Nat} (hi : i < 32) (s : Pp.Sl) (m : Nat) : slots (Pp.upd f i s) m + nm (f i) m = slots f m + nm s m := by
  have h := sumN_one (g := fun i => nm (f i) m) (g' := fun j => nm (Pp.upd f i s j) m) (i := i) 32 hi (fun j hj => by unfold Pp.upd; rw [if_neg hj])
  rw [show Pp.upd f i s i = s by unfold Pp.upd; rw [if_pos rfl]] at h
  exact h
theorem slots_pos {f : Nat → Pp.Sl} {i m : Nat} (hi : i < 32) (h : (f i).tk = true) (hx : (f i).x = (m : Int)) : 1 ≤ slots f m := by
  have h1 := sumN_ge (g := fun i => nm (f i) m) 32 hi
  rw [nm_of h hx, if_pos rfl] at h1
  exact h1
theorem slots_zero {f : Nat → Pp.Sl} {m : Nat} (h : ∀ i, i < 32 → (f i).tk = true → (f i).x ≠ (m : Int)) : slots f m = 0 :=
  sumN_zero 32 (fun i hi => by unfold nm; rw [if_neg (fun h2 => h i hi h2.1 h2.2)])
theorem slots_off {f : Nat → Pp.Sl} {m : Nat} (h : ∀ i, i < 32 → (f i).tk = false) : slots f m = 0 := sumN_zero 32 (fun i hi => nm_no (h i hi) m)
/-- How many slots name m. -/
def refs (K : Ker) (m : Nat) : Nat := wsum (fun P : Prc => slots P.tab m) K.procs
/-- How many descriptions are such ends of x. -/
def isEnd (k x : Nat) (D : Dsc) : Nat := if D.kind = k ∧ D.n = x then 1 else 0
def ends (K : Ker) (k x : Nat) : Nat := wsum (isEnd k x) K.descs
theorem isEnd_le (k x : Nat) (D : Dsc) : isEnd k x D ≤ 1 := by unfold isEnd; split <;> omega
theorem ends_le (K : Ker) (k x : Nat) : ends K k x ≤ K.descs.length := by
  have := wsum_le (f := isEnd k x) (b := 1) K.descs (fun p _ => isEnd_le _ _ _)
  unfold ends
  omega
/-- What a descriptor's cut, a name more .. is still to be told the descriptions: d; what pipes' ends are still to be told: er, et. -/
structure OKd (K : Ker) (d : Nat → Int) (er et : Nat → Nat) : Prop where
  num : Nmb K
  len : K.procs.length ≤ 24
  cnt : ∀ m D, ask K.descs m = some D → D.refs = (refs K m : Int) + d m ∧ 1 ≤ D.refs
  has : ∀ n P, ask K.procs n = some P → ∀ i, i < 32 → (P.tab i).tk = true → ∃ m : Nat, (P.tab i).x = m ∧ ∃ D, ask K.descs m = some D
  exc : ∀ m, d m ≠ 0 → ∃ D, ask K.descs m = some D
  key : ∀ n P, ask K.procs n = some P → P.num = n
  dead : ∀ n P, ask K.procs n = some P → P.ended = true → ∀ i, i < 32 → (P.tab i).tk = false
  pip : ∀ m D, ask K.descs m = some D → D.kind = 3 ∨ D.kind = 4 → D.pipe = some D.n ∧ ∃ s, ask K.pipes D.n = some s
  nop : ∀ m D, ask K.descs m = some D → ¬ (D.kind = 3 ∨ D.kind = 4) → D.pipe = none
  pr : ∀ x s, ask K.pipes x = some s → s.r = ends K 3 x + er x ∧ s.t = ends K 4 x + et x ∧ 1 ≤ s.r + s.t ∧ s.size = 64 ∧ s.data.length ≤ 64
  exr : ∀ x, 0 < er x + et x → ∃ s, ask K.pipes x = some s
abbrev OK (K : Ker) : Prop := OKd K (fun _ => 0) (fun _ => 0) (fun _ => 0)
theorem lt_len : ∀ (l : List Nat) (a b : Nat), l.Pairwise (· < ·) → (∀ x ∈ l, a < x ∧ x ≤ b) → l.length ≤ b - a
  | [], _, _, _, _ => Nat.zero_le _
  | x :: l, a, b, ho, h => by
    rw [List.pairwise_cons] at ho
    have h1 := lt_len l x b ho.2 (fun y hy => ⟨ho.1 y hy, (h y (List.mem_cons_of_mem _ hy)).2⟩)
    have h2 := h x (List.mem_cons_self ..)
    show l.length + 1 ≤ b - a
    omega
theorem ord_len {X : Type} {l : List (Nat × X)} {b : Nat} (ho : OrdK l) (h : ∀ p ∈ l, 1 ≤ p.1 ∧ p.1 ≤ b) : l.length ≤ b := by
  have h1 := lt_len (l.map (fun p : Nat × X => p.1)) 0 b ho (fun x hx => by obtain ⟨p, hp, rfl⟩ := List.mem_map.1 hx; have := h p hp; omega)
  rw [List.length_map] at h1
  omega
section
variable {K : Ker} {d : Nat → Int} {er et : Nat → Nat}
theorem OKd.refs_le (h : OKd K d er et) (m : Nat) : refs K m ≤ 768 := by
  have h1 := wsum_le (f := fun P : Prc => slots P.tab m) (b := 32) K.procs (fun p _ => slots_le _ _)
  have h2 := h.len
  unfold refs
  have h3 : K.procs.length * 32 ≤ 24 * 32 := Nat.mul_le_mul_right _ h2
  omega
theorem OKd.dlen (h : OKd K d er et) : K.descs.length ≤ K.lastD := ord_len h.num.od h.num.ld
theorem OKd.st (h : OKd K d er et) {x : Nat} {s : Pp.St} (hs : ask K.pipes x = some s) (he : er x + et x ≤ 10) : s.r ≤ 100000 ∧ s.t ≤ 100000 := by
  obtain ⟨h1, h2, _⟩ := h.pr x s hs
  have := ends_le K 3 x
  have := ends_le K 4 x
  have := h.dlen
  have := h.num.bd
  omega
theorem refs_put {n : Nat} {P P' : Prc} (h : Nmb K) (hP : ask K.procs n = some P) (m : Nat) : refs (setR K n P') m + slots P.tab m = refs K m + slots P'.tab m := wsum_put h.or_ hP
theorem OKd.slots_le_refs {n : Nat} {P : Prc} (hP : ask K.procs n = some P) (m : Nat) : slots P.tab m ≤ refs K m := wsum_ask (f := fun P : Prc => slots P.tab m) hP
/-- A process is another. -/
theorem OKd.procR (h : OKd K d er et) {n : Nat} {P P' : Prc} (hP : ask K.procs n = some P) (hn : P'.num = P.num) (hdead : P'.ended = true → ∀ i, i < 32 → (P'.tab i).tk = false)
    (hhas : ∀ i, i < 32 → (P'.tab i).tk = true → ∃ m : Nat, (P'.tab i).x = m ∧ ∃ D, ask K.descs m = some D) {d' : Nat → Int} (hd : ∀ m, d' m + slots P'.tab m = d m + slots P.tab m) (hexc : ∀ m, d' m ≠ 0 → ∃ D, ask K.descs m = some D) : OKd (setR K n P') d' er et := by
  have hask : ∀ k Q, ask (setR K n P').procs k = some Q → (k = n ∧ Q = P') ∨ ask K.procs k = some Q := fun k Q hQ => by
    have h1 : ask (put1 K.procs n P') k = some Q := hQ
    rw [ask_put hP] at h1
    by_cases e : k = n
    · rw [if_pos e] at h1; cases h1; exact .inl ⟨e, rfl⟩
    · rw [if_neg e] at h1; exact .inr h1
  refine ⟨nmbR h.num n P', by show (put1 K.procs n P').length ≤ 24; rw [put1_len]; exact h.len, fun m D hD => ?_, fun k Q hQ => ?_, hexc, fun k Q hQ => ?_, fun k Q hQ => ?_, h.pip, h.nop, h.pr, h.exr⟩
  · obtain ⟨h1, h2⟩ := h.cnt m D hD
    have h3 := refs_put (P' := P') h.num hP m
    have h4 := hd m
    exact ⟨by omega, h2⟩
  · rcases hask k Q hQ with ⟨_, rfl⟩ | e
    · exact hhas
    · exact h.has k Q e
  · rcases hask k Q hQ with ⟨rfl, rfl⟩ | e
    · rw [hn]; exact h.key k P hP
    · exact h.key k Q e
  · rcases hask k Q hQ with ⟨_, rfl⟩ | e
    · exact hdead
    · exact h.dead k Q e
/-- A slot of a live process is another. -/
theorem OKd.tab (h : OKd K d er et) {n : Nat} {P : Prc} (hP : ask K.procs n = some P) (hl : P.ended = false) {i : Nat} (hi : i < 32) (s : Pp.Sl) (hs : s.tk = true → ∃ m : Nat, s.x = m ∧ ∃ D, ask K.descs m = some D) :
    OKd (Kn.setR K n { P with tab := Pp.upd P.tab i s }) (fun m => d m + nm (P.tab i) m - nm s m) er et := by
  have hh := h.has n P hP
  refine OKd.procR (P' := { P with tab := Pp.upd P.tab i s }) h hP rfl (fun he => by rw [show P.ended = true from he] at hl; cases hl) (fun j hj ht => ?_) (fun m => ?_) (fun m hm => ?_)
  · dsimp only at ht ⊢
    unfold Pp.upd at ht ⊢
    by_cases e : j = i
    · rw [if_pos e] at ht ⊢; exact hs ht
    · rw [if_neg e] at ht ⊢; exact hh j hj ht
  · have := slots_upd P.tab hi s m
    dsimp only
    omega
  · by_cases h0 : d m = 0
    · by_cases h1 : nm s m = 0
      · have h2 : nm (P.tab i) m ≠ 0 := by omega
        unfold nm at h2
        by_cases e : (P.tab i).tk = true ∧ (P.tab i).x = (m : Int)
        · obtain ⟨k, hk, hD⟩ := hh i hi e.1
          rw [show m = k by have := e.2; omega]
          exact hD
        · rw [if_neg e] at h2; exact absurd rfl h2
      · unfold nm at h1
        by_cases e : s.tk = true ∧ s.x = (m : Int)
        · obtain ⟨k, hk, hD⟩ := hs e.1
          rw [show m = k by have := e.2; omega]
          exact hD
        · rw [if_neg e] at h1; exact absurd rfl h1
    · exact h.exc m h0
/-- A description's count or place is another. -/
theorem OKd.descD (h : OKd K d er et) {m : Nat} {D D' : Dsc} (hD : ask K.descs m = some D) (hk : D'.kind = D.kind) (hn : D'.n = D.n) (hp : D'.pipe = D.pipe) (hr : 1 ≤ D'.refs) :
    OKd (Kn.setD K m D') (fun j => if j = m then d j + (D'.refs - D.refs) else d j) er et := by
  have hask : ∀ k Q, ask (put1 K.descs m D') k = some Q → (k = m ∧ Q = D') ∨ (k ≠ m ∧ ask K.descs k = some Q) := fun k Q hQ => by
    rw [ask_put hD] at hQ
    by_cases e : k = m
    · rw [if_pos e] at hQ; cases hQ; exact .inl ⟨e, rfl⟩
    · rw [if_neg e] at hQ; exact .inr ⟨e, hQ⟩
  have hex : ∀ k, (∃ Q, ask K.descs k = some Q) → ∃ Q, ask (put1 K.descs m D') k = some Q := fun k ⟨Q, hQ⟩ => by
    rw [ask_put hD]
    split
    · exact ⟨_, rfl⟩
    · exact ⟨Q, hQ⟩
  have hends : ∀ k x, ends (Kn.setD K m D') k x = ends K k x := fun k x => by
    have h1 := wsum_put (f := isEnd k x) (x := D') h.num.od hD
    have h2 : isEnd k x D' = isEnd k x D := by unfold isEnd; rw [hk, hn]
    show wsum (isEnd k x) (put1 K.descs m D') = wsum (isEnd k x) K.descs
    omega
  refine ⟨nmbD h.num m D', h.len, fun j Q hQ => ?_, fun n P hP i hi ht => ?_, fun j hj => ?_, h.key, h.dead, fun j Q hQ h34 => ?_, fun j Q hQ h34 => ?_, fun x s hs => ?_, h.exr⟩
  · rcases hask j Q hQ with ⟨rfl, rfl⟩ | ⟨e, hQ⟩
    · have h1 := h.cnt j D hD
      rw [if_pos rfl]
      refine ⟨?_, hr⟩
      show _ = (refs K j : Int) + _
      omega
    · rw [if_neg e]
      exact h.cnt j Q hQ
  · obtain ⟨k, hk, hk2⟩ := h.has n P hP i hi ht
    exact ⟨k, hk, hex k hk2⟩
  · by_cases e : j = m
    · subst e; exact hex j ⟨D, hD⟩
    · rw [if_neg e] at hj; exact hex j (h.exc j hj)
  · rcases hask j Q hQ with ⟨rfl, rfl⟩ | ⟨e, hQ⟩
    · rw [hp, hn]; exact h.pip j D hD (by rw [← hk]; exact h34)
    · exact h.pip j Q hQ h34
  · rcases hask j Q hQ with ⟨rfl, rfl⟩ | ⟨e, hQ⟩
    · rw [hp]; exact h.nop j D hD (by rw [← hk]; exact h34)
    · exact h.nop j Q hQ h34
  · obtain ⟨h1, h2, h3⟩ := h.pr x s hs
    rw [hends, hends]
    exact ⟨h1, h2, h3⟩
theorem OKd.congr (h : OKd K d er et) {d' : Nat → Int} {er' et' : Nat → Nat} (h1 : ∀ m, d m = d' m) (h2 : ∀ x, er x = er' x) (h3 : ∀ x, et x = et' x) : OKd K d' er' et' := by
  obtain rfl : d = d' := funext h1
  obtain rfl : er = er' := funext h2
  obtain rfl : et = et' := funext h3
  exact h
theorem cut_put {X : Type} (l : List (Nat × X)) (n : Nat) (x : X) : cut1 (put1 l n x) n = cut1 l n := by
  unfold cut1 put1
  induction l with
  | nil => rfl
  | cons p t ih =>
    rw [List.map_cons]
    by_cases e : p.1 = n
    · rw [if_pos e, List.filter_cons_of_neg (by simp), List.filter_cons_of_neg (by simp [e]), ih]
    · rw [if_neg e, List.filter_cons_of_pos (by simp [e]), List.filter_cons_of_pos (by simp [e]), ih]
/-- A description that nobody names is cut. -/
theorem OKd.cutD (h : OKd K d er et) {m : Nat} {D : Dsc} (hD : ask K.descs m = some D) (hr : D.refs ≤ 1) (hd : 1 ≤ d m) :
    OKd (cutKD K m) (fun j => if j = m then 0 else d j) (fun x => er x + isEnd 3 x D) (fun x => et x + isEnd 4 x D) := by
  obtain ⟨h1, h2⟩ := h.cnt m D hD
  have hz : refs K m = 0 := by omega
  have hask : ∀ k Q, ask (cut1 K.descs m) k = some Q → k ≠ m ∧ ask K.descs k = some Q := fun k Q hQ => by
    rw [ask_cut] at hQ
    by_cases e : k = m
    · rw [if_pos e] at hQ; cases hQ
    · rw [if_neg e] at hQ; exact ⟨e, hQ⟩
  have hex : ∀ k, k ≠ m → (∃ Q, ask K.descs k = some Q) → ∃ Q, ask (cut1 K.descs m) k = some Q := fun k e ⟨Q, hQ⟩ => ⟨Q, by rw [ask_cut, if_neg e]; exact hQ⟩
  have hends : ∀ k x, ends (cutKD K m) k x + isEnd k x D = ends K k x := fun k x => wsum_cut (f := isEnd k x) h.num.od hD
  refine ⟨nmbCD h.num m, h.len, fun j Q hQ => ?_, fun n P hP i hi ht => ?_, fun j hj => ?_, h.key, h.dead, fun j Q hQ => h.pip j Q (hask j Q hQ).2, fun j Q hQ => h.nop j Q (hask j Q hQ).2, fun x s hs => ?_, fun x hx => ?_⟩
  · obtain ⟨e, hQ⟩ := hask j Q hQ
    rw [if_neg e]
    exact h.cnt j Q hQ
  · obtain ⟨k, hk, hk2⟩ := h.has n P hP i hi ht
    refine ⟨k, hk, hex k (fun e => ?_) hk2⟩
    subst e
    have h3 := slots_pos hi ht hk
    have h4 := OKd.slots_le_refs (K := K) hP k
    omega
  · by_cases e : j = m
    · rw [if_pos e] at hj; exact absurd rfl hj
    · rw [if_neg e] at hj; exact hex j e (h.exc j hj)
  · obtain ⟨h3, h4, h5⟩ := h.pr x s hs
    have h6 := hends 3 x
    have h7 := hends 4 x
    exact ⟨by omega, by omega, h5⟩
  · by_cases e : 0 < er x + et x
    · exact h.exr x e
    · have h3 : isEnd 3 x D ≠ 0 ∨ isEnd 4 x D ≠ 0 := by omega
      have h4 : (D.kind = 3 ∨ D.kind = 4) ∧ D.n = x := by
        unfold isEnd at h3
        rcases h3 with h3 | h3
        · by_cases e : D.kind = 3 ∧ D.n = x
          · exact ⟨.inl e.1, e.2⟩
          · rw [if_neg e] at h3; exact absurd rfl h3
        · by_cases e : D.kind = 4 ∧ D.n = x
          · exact ⟨.inr e.1, e.2⟩
          · rw [if_neg e] at h3; exact absurd rfl h3
      obtain ⟨_, hs⟩ := h.pip m D hD h4.1
      rw [h4.2] at hs
      exact hs
theorem OKd.fileF (h : OKd K d er et) (f : Fs) : OKd (Kn.setF K f) d er et := ⟨nmbF h.num f, h.len, h.cnt, h.has, h.exc, h.key, h.dead, h.pip, h.nop, h.pr, h.exr⟩
/-- A pipe is another. -/
theorem OKd.pipeX (h : OKd K d er et) {x : Nat} {s s' : Pp.St} (hs : ask K.pipes x = some s) (hsz : s'.size = 64) (hdt : s'.data.length ≤ 64) (h1 : 1 ≤ s'.r + s'.t) {er' et' : Nat → Nat} (h2 : s'.r + er x = s.r + er' x) (h3 : s'.t + et x = s.t + et' x) (h4 : ∀ y, y ≠ x → er' y = er y ∧ et' y = et y) :
    OKd (Kn.setX K x s') d er' et' := by
  have hask : ∀ k Q, ask (put1 K.pipes x s') k = some Q → (k = x ∧ Q = s') ∨ (k ≠ x ∧ ask K.pipes k = some Q) := fun k Q hQ => by
    rw [ask_put hs] at hQ
    by_cases e : k = x
    · rw [if_pos e] at hQ; cases hQ; exact .inl ⟨e, rfl⟩
    · rw [if_neg e] at hQ; exact .inr ⟨e, hQ⟩
  have hex : ∀ k, (∃ Q, ask K.pipes k = some Q) → ∃ Q, ask (put1 K.pipes x s') k = some Q := fun k ⟨Q, hQ⟩ => by
    rw [ask_put hs]
    split
    · exact ⟨_, rfl⟩
    · exact ⟨Q, hQ⟩
  refine ⟨nmbX h.num x s', h.len, h.cnt, h.has, h.exc, h.key, h.dead, fun j Q hQ h34 => ?_, h.nop, fun k Q hQ => ?_, fun k hk => ?_⟩
  · obtain ⟨h5, h6⟩ := h.pip j Q hQ h34
    exact ⟨h5, hex _ h6⟩
  · rcases hask k Q hQ with ⟨rfl, rfl⟩ | ⟨e, hQ⟩
    · obtain ⟨h5, h6, _⟩ := h.pr k s hs
      exact ⟨by show _ = ends K 3 k + _; omega, by show _ = ends K 4 k + _; omega, h1, hsz, hdt⟩
    · obtain ⟨h5, h6, h7⟩ := h.pr k Q hQ
      obtain ⟨e1, e2⟩ := h4 k e
      exact ⟨by rw [e1]; exact h5, by rw [e2]; exact h6, h7⟩
  · by_cases e : k = x
    · subst e; exact hex k ⟨s, hs⟩
    · obtain ⟨e1, e2⟩ := h4 k e
      rw [e1, e2] at hk
      exact hex k (h.exr k hk)
/-- A pipe without ends is cut. -/
theorem OKd.cutX (h : OKd K d er et) {x : Nat} {s : Pp.St} (hs : ask K.pipes x = some s) (hz : s.r + s.t = er x + et x) : OKd (cutKX K x) d (fun y => if y = x then 0 else er y) (fun y => if y = x then 0 else et y) := by
  obtain ⟨h1, h2, _⟩ := h.pr x s hs
  have z3 : ends K 3 x = 0 := by omega
  have z4 : ends K 4 x = 0 := by omega
  have hask : ∀ k Q, ask (cut1 K.pipes x) k = some Q → k ≠ x ∧ ask K.pipes k = some Q := fun k Q hQ => by
    rw [ask_cut] at hQ
    by_cases e : k = x
    · rw [if_pos e] at hQ; cases hQ
    · rw [if_neg e] at hQ; exact ⟨e, hQ⟩
  have hex : ∀ k, k ≠ x → (∃ Q, ask K.pipes k = some Q) → ∃ Q, ask (cut1 K.pipes x) k = some Q := fun k e ⟨Q, hQ⟩ => ⟨Q, by rw [ask_cut, if_neg e]; exact hQ⟩
  refine ⟨nmbCX h.num x, h.len, h.cnt, h.has, h.exc, h.key, h.dead, fun j Q hQ h34 => ?_, h.nop, fun k Q hQ => ?_, fun k hk => ?_⟩
  · obtain ⟨h5, h6⟩ := h.pip j Q hQ h34
    refine ⟨h5, hex _ (fun e => ?_) h6⟩
    have hQ' : ask K.descs j = some Q := hQ
    rcases h34 with h3 | h3
    · have := wsum_ask (f := isEnd 3 x) hQ'
      unfold ends at z3
      rw [show isEnd 3 x Q = 1 by unfold isEnd; rw [if_pos ⟨h3, e⟩]] at this
      omega
    · have := wsum_ask (f := isEnd 4 x) hQ'
      unfold ends at z4
      rw [show isEnd 4 x Q = 1 by unfold isEnd; rw [if_pos ⟨h3, e⟩]] at this
      omega
  · obtain ⟨e, hQ⟩ := hask k Q hQ
    rw [if_neg e, if_neg e]
    exact h.pr k Q hQ
  · by_cases e : k = x
    · rw [if_pos e, if_pos e] at hk; omega
    · rw [if_neg e, if_neg e] at hk; exact hex k e (h.exr k hk)
abbrev z0 : Nat → Nat := fun _ => 0
/-- One name less. -/
theorem OKd.lets (h : OKd K d z0 z0) {m : Nat} (hd : 1 ≤ d m) : OKd (letM K m) (fun j => if j = m then d j - 1 else d j) z0 z0 := by
  obtain ⟨D, hD⟩ := h.exc m (by omega)
  obtain ⟨c1, c2⟩ := h.cnt m D hD
  unfold letM
  rw [hD]
  dsimp only
  by_cases hp : 0 < D.refs - 1
  · rw [if_pos hp]
    exact (h.descD hD (D' := { D with refs := D.refs - 1 }) rfl rfl rfl (by dsimp only; omega)).congr (fun j => by dsimp only; split <;> omega) (fun _ => rfl) (fun _ => rfl)
  · rw [if_neg hp]
    have hc : cutKD (Kn.setD K m { D with refs := D.refs - 1 }) m = cutKD K m := by
      unfold cutKD Kn.setD
      dsimp only
      rw [cut_put]
    rw [hc]
    have k := h.cutD hD (by omega) hd
    have hdm : d m = 1 := by omega
    have k2 := k.congr (d' := fun j => if j = m then d j - 1 else d j) (fun j => by
      by_cases e : j = m
      · subst e; rw [if_pos rfl, if_pos rfl]; omega
      · rw [if_neg e, if_neg e]) (fun _ => rfl) (fun _ => rfl)
    by_cases h2 : D.kind = 2
    · rw [if_pos h2]
      exact (k2.fileF _).congr (fun _ => rfl) (fun x => by show 0 + isEnd 3 x D = 0; unfold isEnd; rw [if_neg (by omega)]) (fun x => by show 0 + isEnd 4 x D = 0; unfold isEnd; rw [if_neg (by omega)])
    · rw [if_neg h2]
      by_cases h34 : D.kind = 3 ∨ D.kind = 4
      · rw [if_pos h34]
        obtain ⟨hpi, s, hs⟩ := h.pip m D hD h34
        rw [hs]
        dsimp only
        have hsk : ask (cutKD K m).pipes D.n = some s := hs
        obtain ⟨p1, p2, p3, p4, p5⟩ : s.r = ends (cutKD K m) 3 D.n + (0 + isEnd 3 D.n D) ∧ s.t = ends (cutKD K m) 4 D.n + (0 + isEnd 4 D.n D) ∧ 1 ≤ s.r + s.t ∧ s.size = 64 ∧ s.data.length ≤ 64 := k2.pr D.n s hsk
        have hother : ∀ y, y ≠ D.n → isEnd 3 y D = 0 ∧ isEnd 4 y D = 0 := fun y hy => by
          unfold isEnd
          exact ⟨by rw [if_neg (fun h => hy h.2.symm)], by rw [if_neg (fun h => hy h.2.symm)]⟩
        have hboth : cutKX (Kn.setX (cutKD K m) D.n (s.closed (decide (D.kind = 4)))) D.n = cutKX (cutKD K m) D.n := by
          unfold cutKX Kn.setX
          dsimp only
          rw [cut_put]
        rw [hboth]
        have hcl : (s.closed (decide (D.kind = 4))).r + isEnd 3 D.n D = s.r ∧ (s.closed (decide (D.kind = 4))).t + isEnd 4 D.n D = s.t ∧ (s.closed (decide (D.kind = 4))).size = s.size ∧ (s.closed (decide (D.kind = 4))).data = s.data := by
          rcases h34 with e | e
          · have i3 : isEnd 3 D.n D = 1 := by unfold isEnd; rw [if_pos ⟨e, rfl⟩]
            have i4 : isEnd 4 D.n D = 0 := by unfold isEnd; rw [if_neg (by omega)]
            rw [show decide (D.kind = 4) = false by rw [e]; rfl]
            refine ⟨?_, ?_, rfl, rfl⟩
            · show s.r - 1 + _ = _; rw [i3] at p1 ⊢; omega
            · show s.t + _ = _; rw [i4]; rfl
          · have i3 : isEnd 3 D.n D = 0 := by unfold isEnd; rw [if_neg (by omega)]
            have i4 : isEnd 4 D.n D = 1 := by unfold isEnd; rw [if_pos ⟨e, rfl⟩]
            rw [show decide (D.kind = 4) = true by rw [e]; rfl]
            refine ⟨?_, ?_, rfl, rfl⟩
            · show s.r + _ = _; rw [i3]; rfl
            · show s.t - 1 + _ = _; rw [i4] at p2 ⊢; omega
        obtain ⟨q1, q2, q3, q4⟩ := hcl
        by_cases hz : (s.closed (decide (D.kind = 4))).r + (s.closed (decide (D.kind = 4))).t = 0
        · rw [if_pos hz]
          refine (k2.cutX hsk (by show _ = (0 + isEnd 3 D.n D) + (0 + isEnd 4 D.n D); omega)).congr (fun _ => rfl) (fun y => ?_) (fun y => ?_)
          · show (if y = D.n then 0 else 0 + isEnd 3 y D) = 0
            split
            · rfl
            · rename_i e; rw [(hother y e).1]
          · show (if y = D.n then 0 else 0 + isEnd 4 y D) = 0
            split
            · rfl
            · rename_i e; rw [(hother y e).2]
        · rw [if_neg hz]
          exact k2.pipeX hsk (by rw [q3]; exact p4) (by rw [q4]; exact p5) (by omega) (by show _ + (0 + isEnd 3 D.n D) = _ + 0; omega) (by show _ + (0 + isEnd 4 D.n D) = _ + 0; omega) (fun y hy => by
            obtain ⟨e1, e2⟩ := hother y hy
            show 0 = 0 + isEnd 3 y D ∧ 0 = 0 + isEnd 4 y D
            rw [e1, e2]
            exact ⟨rfl, rfl⟩)
      · rw [if_neg h34]
        exact k2.congr (fun _ => rfl) (fun x => by show 0 + isEnd 3 x D = 0; unfold isEnd; rw [if_neg (by omega)]) (fun x => by show 0 + isEnd 4 x D = 0; unfold isEnd; rw [if_neg (by omega)])
theorem OKd.letOK (h : OKd K d z0 z0) {m : Nat} {D : Dsc} (hD : ask K.descs m = some D) (hd : d m ≤ 1000) : LetOK K m := by
  obtain ⟨c1, c2⟩ := h.cnt m D hD
  have := h.refs_le m
  refine ⟨D, hD, ⟨by omega, by omega⟩, fun h34 => ?_⟩
  obtain ⟨hp, s, hs⟩ := h.pip m D hD h34
  have := h.st hs (by show 0 + 0 ≤ 10; omega)
  exact ⟨s, hp, hs, by omega, by omega⟩
end
end Go.Proofs.YtmilagppbepnbaaGreat.Kn
/- The kernel's counts: what each call leaves. No condition. -/
namespace Go.Proofs.YtmilagppbepnbaaGreat.Kn
open Go.RowKit Go.PlainAid
set_option linter.unusedVariables false
set_option linter.unusedSimpArgs false
section
variable {K : Ker} {d : Nat → Int} {er et : Nat → Nat}
/-! ### Slots -/
theorem upto_all {f : Nat → Pp.Sl} : ∀ k, k ≤ 32 → (∀ i, i < k → (f i).tk = true) → (Pp.upto f k).length = k
  | 0, _, _ => rfl
  | k + 1, hk, h => by
    rw [Pp.upto_yes (by omega) (h k (by omega)), List.length_append, upto_all k (by omega) (fun i hi => h i (by omega))]
    rfl
theorem free_some {f : Nat → Pp.Sl} (h : ¬ tfreeM f = 0) : ∃ j, ffree f 32 0 = some j ∧ j < 32 ∧ (f j).tk = false := by
  cases hf : ffree f 32 0 with
  | none =>
    exfalso
    apply h
    unfold tfreeM
    rw [upto_all 32 (Nat.le_refl _) (fun i hi => ffree_none hf i (by omega) (by omega))]
    rfl
  | some j =>
    obtain ⟨h1, h2, h3, h4⟩ := ffree_some hf
    exact ⟨j, rfl, by omega, h3⟩
theorem tput_zero {f : Nat → Pp.Sl} {j : Nat} (h : ffree f 32 0 = some j) (x : Int) : tputM f x 0 = ((j : Int), 0, Pp.upd f j ⟨true, false, x⟩) := by
  unfold tputM
  rw [if_pos (by omega)]
  rw [show (32 - (0 : Int).toNat) = 32 from rfl, show (0 : Int).toNat = 0 from rfl, h]
theorem tput_ok {f : Nat → Pp.Sl} {x l : Int} (h : (tputM f x l).2.1 = 0) : ∃ j, j < 32 ∧ (f j).tk = false ∧ tputM f x l = ((j : Int), 0, Pp.upd f j ⟨true, false, x⟩) := by
  unfold tputM at h ⊢
  by_cases hl : 0 ≤ l ∧ l < 32
  · rw [if_pos hl] at h ⊢
    cases hf : ffree f (32 - l.toNat) l.toNat with
    | none => rw [hf] at h; dsimp only at h; omega
    | some j =>
      obtain ⟨h1, h2, h3, h4⟩ := ffree_some hf
      exact ⟨j, by omega, h3, rfl⟩
  · rw [if_neg hl] at h; dsimp only at h; omega
theorem tcut_ok {f : Nat → Pp.Sl} {fd : Int} (h : (tcutM f fd).2.1 = 0) : ∃ i : Nat, fd = i ∧ i < 32 ∧ (f i).tk = true ∧ tcutM f fd = ((f i).x, 0, Pp.upd f i Pp.Sl.none) := by
  unfold tcutM at h ⊢
  by_cases hl : 0 ≤ fd ∧ fd < 32
  · rw [if_pos hl] at h ⊢
    obtain ⟨i, rfl⟩ : ∃ i : Nat, fd = i := ⟨fd.toNat, by omega⟩
    rw [Int.toNat_natCast] at h ⊢
    cases ht : (f i).tk with
    | true => rw [ht] at h; exact ⟨i, rfl, by omega, ht, by rw [if_pos rfl]⟩
    | false => rw [ht] at h; simp at h
  · rw [if_neg hl] at h; dsimp only at h; omega
theorem tset_ok {f : Nat → Pp.Sl} {fd x : Int} (h : (tsetM f fd x).2.2.1 = 0) : ∃ i : Nat, fd = i ∧ i < 32 ∧ tsetM f fd x = ((f i).x, (f i).tk, 0, Pp.upd f i ⟨true, false, x⟩) := by
  unfold tsetM at h ⊢
  by_cases hl : 0 ≤ fd ∧ fd < 32
  · rw [if_pos hl]
    obtain ⟨i, rfl⟩ : ∃ i : Nat, fd = i := ⟨fd.toNat, by omega⟩
    exact ⟨i, rfl, by omega, by rw [Int.toNat_natCast]⟩
  · rw [if_neg hl] at h; dsimp only at h; omega
theorem tab_ok {f : Nat → Pp.Sl} {fd : Int} (h : (tabM f fd).2 = 0) : ∃ i : Nat, fd = i ∧ i < 32 ∧ (f i).tk = true ∧ (tabM f fd).1 = (f i).x := by
  unfold tabM at h ⊢
  by_cases hl : 0 ≤ fd ∧ fd < 32
  · rw [if_pos hl] at h ⊢
    obtain ⟨i, rfl⟩ : ∃ i : Nat, fd = i := ⟨fd.toNat, by omega⟩
    rw [Int.toNat_natCast] at h ⊢
    cases ht : (f i).tk with
    | true => exact ⟨i, rfl, by omega, ht, by unfold Pp.Sl.val; rw [ht]; rfl⟩
    | false => unfold Pp.Sl.err at h; rw [ht] at h; simp at h
  · rw [if_neg hl] at h; dsimp only at h; omega
theorem OKd.pipe_le (h : OKd K d er et) {n : Nat} {s : Pp.St} (hs : ask K.pipes n = some s) : 1 ≤ n ∧ n ≤ K.lastX := h.num.lx _ (ask_mem hs)
/-- A description more, named by the least free descriptor. -/
theorem OKd.inst (h : OKd K d er et) {n : Nat} {P : Prc} (hP : ask K.procs n = some P) (hl : P.ended = false) (hfree : ¬ tfreeM P.tab = 0) (D : Dsc) (hlast : K.lastD < 90000)
    (hpip : D.kind = 3 ∨ D.kind = 4 → D.pipe = some D.n ∧ ∃ s, ask K.pipes D.n = some s) (hnop : ¬ (D.kind = 3 ∨ D.kind = 4) → D.pipe = none) {er' et' : Nat → Nat} (h3 : ∀ x, er' x + isEnd 3 x D = er x) (h4 : ∀ x, et' x + isEnd 4 x D = et x) : OKd (instM K n P D) d er' et' := by
  obtain ⟨j, hj, hj2, hj3⟩ := free_some hfree
  have hnew : ask K.descs (K.lastD + 1) = none := ask_none.2 (fun p hp e => by have := (h.num.ld p hp).2; omega)
  have hd0 : d (K.lastD + 1) = 0 := by
    by_cases e : d (K.lastD + 1) = 0
    · exact e
    · obtain ⟨Q, hQ⟩ := h.exc _ e
      rw [hnew] at hQ; cases hQ
  have hr0 : refs K (K.lastD + 1) = 0 := by
    apply wsum_zero
    intro p hp
    apply slots_zero
    intro i hi ht hx
    obtain ⟨m, hm, Q, hQ⟩ := h.has p.1 p.2 (ask_of h.num.or_ (by exact hp)) i hi ht
    have : m = K.lastD + 1 := by omega
    subst this
    rw [hnew] at hQ; cases hQ
  have hask : ∀ k Q, ask (K.descs ++ [(K.lastD + 1, { D with refs := 1 })]) k = some Q → (k = K.lastD + 1 ∧ Q = { D with refs := 1 }) ∨ (k ≠ K.lastD + 1 ∧ ask K.descs k = some Q) := fun k Q hQ => by
    rw [ask_app (fun p hp => by have := (h.num.ld p hp).2; omega)] at hQ
    by_cases e : k = K.lastD + 1
    · rw [if_pos e] at hQ; cases hQ; exact .inl ⟨e, rfl⟩
    · rw [if_neg e] at hQ; exact .inr ⟨e, hQ⟩
  have hex : ∀ k, (∃ Q, ask K.descs k = some Q) → ∃ Q, ask (K.descs ++ [(K.lastD + 1, { D with refs := 1 })]) k = some Q := fun k ⟨Q, hQ⟩ => by
    rw [ask_app (fun p hp => by have := (h.num.ld p hp).2; omega)]
    split
    · exact ⟨_, rfl⟩
    · exact ⟨Q, hQ⟩
  have hlast2 : ∃ Q, ask (K.descs ++ [(K.lastD + 1, { D with refs := 1 })]) (K.lastD + 1) = some Q := by
    rw [ask_app (fun p hp => by have := (h.num.ld p hp).2; omega), if_pos rfl]; exact ⟨_, rfl⟩
  have hends : ∀ k x, ends (putD K { D with refs := 1 }) k x = ends K k x + isEnd k x D := fun k x => by
    show wsum (isEnd k x) (K.descs ++ [(K.lastD + 1, { D with refs := 1 })]) = _
    rw [wsum_app]
    rfl
  -- first: the description alone, with a name that is still to come
  have k1 : OKd (putD K { D with refs := 1 }) (fun m => if m = K.lastD + 1 then 1 else d m) er' et' := by
    refine ⟨nmbPD h.num _ hlast, h.len, fun m Q hQ => ?_, fun k Q hQ i hi ht => ?_, fun m hm => ?_, h.key, h.dead, fun m Q hQ h34 => ?_, fun m Q hQ h34 => ?_, fun x s hs => ?_, fun x hx => h.exr x (by have := h3 x; have := h4 x; omega)⟩
    · rcases hask m Q hQ with ⟨rfl, rfl⟩ | ⟨e, hQ⟩
      · rw [if_pos rfl]
        refine ⟨?_, by show (1 : Int) ≤ 1; omega⟩
        show (1 : Int) = (refs K (K.lastD + 1) : Int) + 1
        rw [hr0]; rfl
      · rw [if_neg e]; exact h.cnt m Q hQ
    · obtain ⟨m, hm, hm2⟩ := h.has k Q hQ i hi ht
      exact ⟨m, hm, hex m hm2⟩
    · by_cases e : m = K.lastD + 1
      · subst e; exact hlast2
      · rw [if_neg e] at hm; exact hex m (h.exc m hm)
    · rcases hask m Q hQ with ⟨rfl, rfl⟩ | ⟨e, hQ⟩
      · exact hpip h34
      · exact h.pip m Q hQ h34
    · rcases hask m Q hQ with ⟨rfl, rfl⟩ | ⟨e, hQ⟩
      · exact hnop h34
      · exact h.nop m Q hQ h34
    · obtain ⟨p1, p2, p3⟩ := h.pr x s hs
      have e3 := h3 x
      have e4 := h4 x
      rw [hends, hends]
      exact ⟨by omega, by omega, p3⟩
  have k2 := k1.tab (n := n) (P := P) hP hl hj2 ⟨true, false, (K.lastD : Int) + 1⟩ (fun _ => ⟨K.lastD + 1, rfl, hlast2⟩)
  have hi : instM K n P D = Kn.setR (putD K { D with refs := 1 }) n { P with tab := Pp.upd P.tab j ⟨true, false, (K.lastD : Int) + 1⟩ } := by
    unfold instM
    rw [tput_zero hj]
  rw [hi]
  refine k2.congr (fun m => ?_) (fun _ => rfl) (fun _ => rfl)
  rw [nm_no hj3, nm_of (m := K.lastD + 1) (s := ⟨true, false, (K.lastD : Int) + 1⟩) rfl rfl]
  by_cases e : m = K.lastD + 1
  · rw [if_pos e, if_pos e, e, hd0]; rfl
  · rw [if_neg e, if_neg e]; omega
theorem OKd.inc (h : OKd K d er et) {m : Nat} {D : Dsc} (hD : ask K.descs m = some D) : OKd (incM K m) (fun j => if j = m then d j + 1 else d j) er et := by
  have hi : incM K m = setD K m { D with refs := D.refs + 1 } := by unfold incM; rw [hD]
  rw [hi]
  exact (h.descD hD (D' := { D with refs := D.refs + 1 }) rfl rfl rfl (by have := (h.cnt m D hD).2; dsimp only; omega)).congr (fun j => by dsimp only; split <;> omega) (fun _ => rfl) (fun _ => rfl)
theorem OK.dup (h : OK K) {n : Nat} {P : Prc} (hP : ask K.procs n = some P) (hl : P.ended = false) (fd least : Int) : OK (dupM K n P fd least).2.2 := by
  unfold dupM
  by_cases h0 : (tabM P.tab fd).2 ≠ 0
  · rw [if_pos h0]; exact h
  · rw [if_neg h0]
    obtain ⟨i, rfl, hi, ht, hx⟩ := tab_ok (by omega : (tabM P.tab fd).2 = 0)
    obtain ⟨m, hm, D, hD⟩ := h.has n P hP i hi ht
    rw [hx, hm, Int.toNat_natCast]
    by_cases h1 : (tputM P.tab (m : Int) least).2.1 = 0
    · rw [if_pos h1]
      obtain ⟨j, hj, hj2, he⟩ := tput_ok h1
      rw [he]
      have k1 := h.tab hP hl hj ⟨true, false, (m : Int)⟩ (fun _ => ⟨m, rfl, D, hD⟩)
      refine (k1.inc (m := m) (D := D) hD).congr (fun k => ?_) (fun _ => rfl) (fun _ => rfl)
      rw [nm_no hj2, nm_of (m := m) (s := ⟨true, false, (m : Int)⟩) rfl rfl]
      split <;> simp
    · rw [if_neg h1]; exact h
/-- A descriptor's cut: one name of m less. -/
theorem OK.close (h : OK K) {n : Nat} {P : Prc} (hP : ask K.procs n = some P) (hl : P.ended = false) (fd : Int) : OK (closeM K n P fd) := by
  unfold closeM
  by_cases h1 : (tcutM P.tab fd).2.1 = 0
  · rw [if_pos h1]
    obtain ⟨i, rfl, hi, ht, he⟩ := tcut_ok h1
    obtain ⟨m, hm, D, hD⟩ := h.has n P hP i hi ht
    rw [he]
    dsimp only
    rw [hm, Int.toNat_natCast]
    have k1 := h.tab hP hl hi Pp.Sl.none (fun e => by cases e)
    have k2 := k1.congr (d' := fun j => if j = m then 1 else 0) (fun k => by
      rw [nm_none, nm_of ht hm]
      split <;> simp) (fun _ => rfl) (fun _ => rfl)
    refine (k2.lets (m := m) (by rw [if_pos rfl]; omega)).congr (fun j => ?_) (fun _ => rfl) (fun _ => rfl)
    split <;> simp
  · rw [if_neg h1]; exact h
theorem OK.closeOK (h : OK K) {n : Nat} {P : Prc} (hP : ask K.procs n = some P) (fd : Int) (h1 : (tcutM P.tab fd).2.1 = 0) : ∃ m : Nat, (tcutM P.tab fd).1 = m ∧ LetOK K m := by
  obtain ⟨i, rfl, hi, ht, he⟩ := tcut_ok h1
  obtain ⟨m, hm, D, hD⟩ := h.has n P hP i hi ht
  exact ⟨m, by rw [he]; exact hm, OKd.letOK h hD (by show (0 : Int) ≤ 1000; omega)⟩
theorem OK.dup2 (h : OK K) {n : Nat} {P : Prc} (hP : ask K.procs n = some P) (hl : P.ended = false) (fd other : Int) : OK (dup2M K n P fd other).2.2 ∧
    ((tabM P.tab fd).2 = 0 → ∃ m : Nat, (tabM P.tab fd).1 = m ∧ (∃ D, ask K.descs m = some D ∧ (-1000000 ≤ D.refs ∧ D.refs ≤ 1000000)) ∧ (fd ≠ other → (tsetM P.tab other (m : Int)).2.2.1 = 0 → (tsetM P.tab other (m : Int)).2.1 = true → ∃ o : Nat, (tsetM P.tab other (m : Int)).1 = o ∧ LetOK (dup2K K n P m other) o)) := by
  unfold dup2M
  by_cases h0 : (tabM P.tab fd).2 ≠ 0
  · rw [if_pos h0]; exact ⟨h, fun e => absurd e h0⟩
  · rw [if_neg h0]
    obtain ⟨i, rfl, hi, ht, hx⟩ := tab_ok (by omega : (tabM P.tab fd).2 = 0)
    obtain ⟨m, hm, D, hD⟩ := h.has n P hP i hi ht
    rw [hx, hm, Int.toNat_natCast]
    have hrf : -1000000 ≤ D.refs ∧ D.refs ≤ 1000000 := by
      obtain ⟨e1, e2⟩ := h.cnt m D hD
      have := OKd.refs_le h m
      omega
    -- the slot set, the name told
    have key : (tsetM P.tab other (m : Int)).2.2.1 = 0 → ∃ j : Nat, other = j ∧ j < 32 ∧ tsetM P.tab other (m : Int) = ((P.tab j).x, (P.tab j).tk, 0, Pp.upd P.tab j ⟨true, false, (m : Int)⟩) ∧ OKd (dup2K K n P m other) (fun k => nm (P.tab j) k) z0 z0 := fun h1 => by
      obtain ⟨j, rfl, hj, he⟩ := tset_ok h1
      refine ⟨j, rfl, hj, he, ?_⟩
      unfold dup2K
      rw [he]
      have k1 := h.tab hP hl hj ⟨true, false, (m : Int)⟩ (fun _ => ⟨m, rfl, D, hD⟩)
      refine (k1.inc (m := m) (D := D) hD).congr (fun k => ?_) (fun _ => rfl) (fun _ => rfl)
      rw [nm_of (m := m) (s := ⟨true, false, (m : Int)⟩) rfl rfl]
      split <;> simp
    refine ⟨?_, fun _ => ⟨m, rfl, ⟨D, hD, hrf⟩, fun hne h1 h2 => ?_⟩⟩
    · by_cases hfo : (i : Int) = other
      · rw [if_pos hfo]; exact h
      · rw [if_neg hfo]
        by_cases h1 : (tsetM P.tab other (m : Int)).2.2.1 ≠ 0
        · rw [if_pos h1]; exact h
        · rw [if_neg h1]
          obtain ⟨j, hj0, hj, he, k⟩ := key (by omega)
          rw [he]
          dsimp only
          cases htk : (P.tab j).tk with
          | false =>
            rw [if_neg (by simp)]
            exact k.congr (fun x => by rw [nm_no htk]; rfl) (fun _ => rfl) (fun _ => rfl)
          | true =>
            rw [if_pos rfl]
            obtain ⟨o, ho, E, hE⟩ := h.has n P hP j hj htk
            rw [ho, Int.toNat_natCast]
            refine (k.lets (m := o) (by rw [nm_of htk ho, if_pos rfl]; omega)).congr (fun x => ?_) (fun _ => rfl) (fun _ => rfl)
            rw [nm_of htk ho]
            split <;> simp
    · obtain ⟨j, hj0, hj, he, k⟩ := key h1
      rw [he] at h2 ⊢
      dsimp only at h2 ⊢
      obtain ⟨o, ho, E, hE⟩ := h.has n P hP j hj h2
      obtain ⟨E', hE'⟩ := k.exc o (by rw [nm_of h2 ho, if_pos rfl]; omega)
      exact ⟨o, ho, k.letOK hE' (by have := nm_le (P.tab j) o; omega)⟩
theorem OK.text (h : OK K) {n : Nat} {P : Prc} (hP : ask K.procs n = some P) (hl : P.ended = false) (hlast : K.lastD < 90000) (s : ByteArray) : OK (textM K n P s).2.2 := by
  unfold textM
  by_cases h0 : tfreeM P.tab = 0
  · rw [if_pos h0]; exact h
  · rw [if_neg h0]
    exact OKd.inst h hP hl h0 _ hlast (fun e => by dsimp only at e; omega) (fun _ => rfl) (fun x => by unfold isEnd; rw [if_neg (by dsimp only; omega)]) (fun x => by unfold isEnd; rw [if_neg (by dsimp only; omega)])
theorem tfree_upd {f : Nat → Pp.Sl} (h : ¬ tfreeM f < 2) {j : Nat} (hj : ffree f 32 0 = some j) (s : Pp.Sl) : ¬ tfreeM (Pp.upd f j s) = 0 := by
  obtain ⟨h1, h2, h3, h4⟩ := ffree_some hj
  intro h0
  have hlen : (Pp.upto (Pp.upd f j s) 32).length = 32 := by unfold tfreeM at h0; omega
  -- all slots are taken there
  have hall : ∀ k, k ≤ 32 → (Pp.upto (Pp.upd f j s) k).length ≤ (Pp.upto f k).length + (if j < k then 1 else 0) := by
    intro k
    induction k with
    | zero => intro _; show 0 ≤ _; omega
    | succ k ih =>
      intro hk
      have h5 := ih (by omega)
      by_cases e : k = j
      · subst e
        have h6 : (Pp.upto (Pp.upd f k s) (k + 1)).length ≤ (Pp.upto (Pp.upd f k s) k).length + 1 := by
          cases ht : (Pp.upd f k s k).tk with
          | true => rw [Pp.upto_yes (by omega) ht, List.length_append]; simp
          | false => rw [Pp.upto_no ht]; omega
        rw [Pp.upto_no h3, if_pos (by omega)]
        rw [if_neg (by omega)] at h5
        omega
      · have h6 : Pp.upd f j s k = f k := by unfold Pp.upd; rw [if_neg e]
        have h7 : (if j < k + 1 then 1 else 0 : Nat) = if j < k then 1 else 0 := by
          by_cases e2 : j < k
          · rw [if_pos e2, if_pos (by omega)]
          · rw [if_neg e2, if_neg (by omega)]
        rw [h7]
        cases ht : (f k).tk with
        | true => rw [Pp.upto_yes (by omega) ht, Pp.upto_yes (by omega) (by rw [h6]; exact ht), List.length_append, List.length_append]; simp; omega
        | false => rw [Pp.upto_no ht, Pp.upto_no (by rw [h6]; exact ht)]; exact h5
  have := hall 32 (Nat.le_refl _)
  rw [if_pos (by omega)] at this
  unfold tfreeM at h
  omega
theorem OK.npipe (h : OK K) {n : Nat} {P : Prc} (hP : ask K.procs n = some P) (hl : P.ended = false) (hld : K.lastD < 80000) (hlx : K.lastX < 80000) : OK (npipeM K n P).2.2.2 := by
  unfold npipeM
  by_cases h0 : tfreeM P.tab < 2
  · rw [if_pos h0]; exact h
  · rw [if_neg h0]
    dsimp only
    have hnx : ask K.pipes (K.lastX + 1) = none := ask_none.2 (fun p hp e => by have := (h.num.lx p hp).2; omega)
    have hask : ∀ k Q, ask (K.pipes ++ [(K.lastX + 1, (⟨64, 1, 1, []⟩ : Pp.St))]) k = some Q → (k = K.lastX + 1 ∧ Q = ⟨64, 1, 1, []⟩) ∨ (k ≠ K.lastX + 1 ∧ ask K.pipes k = some Q) := fun k Q hQ => by
      rw [ask_app (fun p hp => by have := (h.num.lx p hp).2; omega)] at hQ
      by_cases e : k = K.lastX + 1
      · rw [if_pos e] at hQ; cases hQ; exact .inl ⟨e, rfl⟩
      · rw [if_neg e] at hQ; exact .inr ⟨e, hQ⟩
    have hex : ∀ k, (∃ Q, ask K.pipes k = some Q) → ∃ Q, ask (K.pipes ++ [(K.lastX + 1, (⟨64, 1, 1, []⟩ : Pp.St))]) k = some Q := fun k ⟨Q, hQ⟩ => by
      rw [ask_app (fun p hp => by have := (h.num.lx p hp).2; omega)]
      split
      · exact ⟨_, rfl⟩
      · exact ⟨Q, hQ⟩
    have hnew : ask (putX K ⟨64, 1, 1, []⟩).pipes (K.lastX + 1) = some ⟨64, 1, 1, []⟩ := by
      show ask (K.pipes ++ [(K.lastX + 1, (⟨64, 1, 1, []⟩ : Pp.St))]) (K.lastX + 1) = _
      rw [ask_app (fun p hp => by have := (h.num.lx p hp).2; omega), if_pos rfl]
    have hz : ∀ k, k = 3 ∨ k = 4 → ends K k (K.lastX + 1) = 0 := fun k hk => by
      apply wsum_zero
      intro p hp
      unfold isEnd
      rw [if_neg]
      rintro ⟨e1, e2⟩
      obtain ⟨_, s, hs⟩ := h.pip p.1 p.2 (ask_of h.num.od (by exact hp)) (by omega)
      rw [e2, hnx] at hs; cases hs
    have k1 : OKd (putX K ⟨64, 1, 1, []⟩) (fun _ => 0) (fun x => if x = K.lastX + 1 then 1 else 0) (fun x => if x = K.lastX + 1 then 1 else 0) := by
      refine ⟨nmbPX h.num _ (by omega), h.len, h.cnt, h.has, h.exc, h.key, h.dead, fun m Q hQ h34 => ?_, h.nop, fun x s hs => ?_, fun x hx => ?_⟩
      · obtain ⟨e1, e2⟩ := h.pip m Q hQ h34
        exact ⟨e1, hex _ e2⟩
      · rcases hask x s hs with ⟨rfl, rfl⟩ | ⟨e, hs⟩
        · rw [if_pos rfl]
          have z3 := hz 3 (.inl rfl)
          have z4 := hz 4 (.inr rfl)
          exact ⟨by show 1 = ends K 3 _ + 1; omega, by show 1 = ends K 4 _ + 1; omega, by decide, rfl, by decide⟩
        · rw [if_neg e]
          exact h.pr x s hs
      · by_cases e : x = K.lastX + 1
        · subst e; exact ⟨_, hnew⟩
        · rw [if_neg e] at hx; omega
    obtain ⟨j, hj, hj2, hj3⟩ := free_some (f := P.tab) (by omega)
    have k2 := k1.inst (n := n) (P := P) hP hl (by omega) (endD 3 (K.lastX + 1)) (by show K.lastD < 90000; omega) (fun _ => ⟨rfl, _, hnew⟩) (fun e => absurd (.inl rfl) e)
      (er' := fun _ => 0) (et' := fun x => if x = K.lastX + 1 then 1 else 0) (fun x => by
        unfold isEnd endD
        dsimp only
        by_cases e : x = K.lastX + 1
        · rw [if_pos e, if_pos ⟨rfl, e.symm⟩]
        · rw [if_neg e, if_neg (fun h => e h.2.symm)]) (fun x => by
        have : isEnd 4 x (endD 3 (K.lastX + 1)) = 0 := by unfold isEnd endD; rw [if_neg (by dsimp only; omega)]
        rw [this]; rfl)
    have hP5 : ask (instM (putX K ⟨64, 1, 1, []⟩) n P (endD 3 (K.lastX + 1))).procs n = some { P with tab := (tputM P.tab ((K.lastD : Int) + 1) 0).2.2 } := inst_ask (K := putX K ⟨64, 1, 1, []⟩) hP _
    have k3 := k2.inst (n := n) hP5 hl (by
        dsimp only
        rw [tput_zero hj]
        exact tfree_upd h0 hj _) (endD 4 (K.lastX + 1)) (by show K.lastD + 1 < 90000; omega) (fun _ => ⟨rfl, _, hnew⟩) (fun e => absurd (.inr rfl) e)
      (er' := fun _ => 0) (et' := fun _ => 0) (fun x => by
        have : isEnd 3 x (endD 4 (K.lastX + 1)) = 0 := by unfold isEnd endD; rw [if_neg (by dsimp only; omega)]
        rw [this]) (fun x => by
        unfold isEnd endD
        dsimp only
        by_cases e : x = K.lastX + 1
        · rw [if_pos e, if_pos ⟨rfl, e.symm⟩]
        · rw [if_neg e, if_neg (fun h => e h.2.symm)])
    exact k3
/-! ### fork -/
theorem upto_snd {f : Nat → Pp.Sl} {k : Nat} (hk : k < 32) (ht : (f k).tk = true) {m : Nat} (hx : (f k).x = (m : Int)) : incL K (Pp.upto f (k + 1)) = incM (incL K (Pp.upto f k)) m := by
  rw [Pp.upto_yes hk ht, incL_snoc, hx, Int.toNat_natCast]
theorem OKd.incl (h : OKd K (fun _ => 0) er et) {f : Nat → Pp.Sl} (hf : ∀ i, i < 32 → (f i).tk = true → ∃ m : Nat, (f i).x = m ∧ ∃ D, ask K.descs m = some D) :
    ∀ k, k ≤ 32 → OKd (incL K (Pp.upto f k)) (fun m => (sumN (fun i => nm (f i) m) k : Nat)) er et
  | 0, _ => h.congr (fun _ => rfl) (fun _ => rfl) (fun _ => rfl)
  | k + 1, hk => by
    have ih := OKd.incl h hf k (by omega)
    cases ht : (f k).tk with
    | true =>
      obtain ⟨m, hm, D, hD⟩ := hf k (by omega) ht
      rw [upto_snd (by omega) ht hm]
      obtain ⟨j, _, hD2⟩ := incL_has (Pp.upto f k) hD
      refine (ih.inc hD2).congr (fun x => ?_) (fun _ => rfl) (fun _ => rfl)
      show _ = ((sumN (fun i => nm (f i) x) k + nm (f k) x : Nat) : Int)
      rw [nm_of ht hm]
      split <;> push_cast <;> omega
    | false =>
      rw [Pp.upto_no ht]
      refine ih.congr (fun x => ?_) (fun _ => rfl) (fun _ => rfl)
      show _ = ((sumN (fun i => nm (f i) x) k + nm (f k) x : Nat) : Int)
      rw [nm_no ht]
      rfl
/-- A process more. -/
theorem OKd.putR (h : OKd K d er et) (P : Prc) (hlen : K.procs.length < 24) (hlast : K.lastR < 90000) (hn : P.num = K.lastR + 1) (hdead : P.ended = true → ∀ i, i < 32 → (P.tab i).tk = false)
    (hhas : ∀ i, i < 32 → (P.tab i).tk = true → ∃ m : Nat, (P.tab i).x = m ∧ ∃ D, ask K.descs m = some D) {d' : Nat → Int} (hd : ∀ m, d' m + slots P.tab m = d m) : OKd (Kn.putR K P) d' er et := by
  have hask : ∀ k Q, ask (K.procs ++ [(K.lastR + 1, P)]) k = some Q → (k = K.lastR + 1 ∧ Q = P) ∨ ask K.procs k = some Q := fun k Q hQ => by
    rw [ask_app (fun p hp => by have := (h.num.lr p hp).2; omega)] at hQ
    by_cases e : k = K.lastR + 1
    · rw [if_pos e] at hQ; cases hQ; exact .inl ⟨e, rfl⟩
    · rw [if_neg e] at hQ; exact .inr hQ
  have hr : ∀ m, refs (Kn.putR K P) m = refs K m + slots P.tab m := fun m => by
    show wsum (fun P : Prc => slots P.tab m) (K.procs ++ [(K.lastR + 1, P)]) = _
    rw [wsum_app]
    rfl
  refine ⟨nmbPR h.num P hlast, by show (K.procs ++ [(K.lastR + 1, P)]).length ≤ 24; rw [List.length_append]; exact hlen, fun m D hD => ?_, fun k Q hQ => ?_, fun m hm => ?_, fun k Q hQ => ?_, fun k Q hQ => ?_, h.pip, h.nop, h.pr, h.exr⟩
  · obtain ⟨h1, h2⟩ := h.cnt m D hD
    have := hd m
    rw [hr]
    exact ⟨by omega, h2⟩
  · rcases hask k Q hQ with ⟨_, rfl⟩ | e
    · exact hhas
    · exact h.has k Q e
  · have h1 := hd m
    by_cases e : d m = 0
    · have h2 : 0 < slots P.tab m ∨ slots P.tab m = 0 := by omega
      rcases h2 with h2 | h2
      · by_cases h3 : ∃ i, i < 32 ∧ (P.tab i).tk = true ∧ (P.tab i).x = (m : Int)
        · obtain ⟨i, hi, ht, hx⟩ := h3
          obtain ⟨k, hk, hD⟩ := hhas i hi ht
          rw [show m = k by omega]
          exact hD
        · exact absurd (slots_zero (fun i hi ht hx => h3 ⟨i, hi, ht, hx⟩)) (by omega)
      · omega
    · exact h.exc m e
  · rcases hask k Q hQ with ⟨rfl, rfl⟩ | e
    · exact hn
    · exact h.key k Q e
  · rcases hask k Q hQ with ⟨_, rfl⟩ | e
    · exact hdead
    · exact h.dead k Q e
theorem OK.forkOK (h : OK K) {n : Nat} {P : Prc} (hP : ask K.procs n = some P) : ∀ i, i < 32 → (P.tab i).tk = true → ∃ m : Nat, (P.tab i).x = m ∧ ∃ D, ask K.descs m = some D ∧ -1000000 ≤ D.refs ∧ D.refs ≤ 900000 := fun i hi ht => by
  obtain ⟨m, hm, D, hD⟩ := h.has n P hP i hi ht
  obtain ⟨e1, e2⟩ := h.cnt m D hD
  have := OKd.refs_le h m
  exact ⟨m, hm, D, hD, by omega, by omega⟩
theorem OK.fork (h : OK K) {n : Nat} {P : Prc} (hP : ask K.procs n = some P) (hlast : K.lastR < 90000) : OK (forkM K P).2.2 := by
  unfold forkM
  by_cases hl : 24 ≤ K.procs.length
  · rw [if_pos hl]; exact h
  · rw [if_neg hl]
    have hf := h.has n P hP
    have k1 := (h.incl hf 32 (Nat.le_refl _)).fileF (HoldM K.fs P.dir).2
    obtain ⟨z1, z2, z3, z4, z5, z6⟩ := incL_eq K (Pp.upto P.tab 32)
    have k2 := k1.putR (kidP K P) (by show (incL K (Pp.upto P.tab 32)).procs.length < 24; rw [z3]; omega) (by show (incL K (Pp.upto P.tab 32)).lastR < 90000; rw [z6]; exact hlast) (by show K.lastR + 1 = (incL K (Pp.upto P.tab 32)).lastR + 1; rw [z6]) (fun e => by cases e)
      (fun i hi ht => by
        obtain ⟨m, hm, D, hD⟩ := hf i hi ht
        obtain ⟨j, _, hD2⟩ := incL_has (Pp.upto P.tab 32) hD
        exact ⟨m, hm, _, hD2⟩) (d' := fun _ => 0) (fun m => by show 0 + (slots P.tab m : Int) = _; unfold slots; omega)
    exact k2
/-! ### exec -/
def cntI (l : List Int) (m : Nat) : Nat := l.countP (fun x => x == (m : Int))
def letL (K : Ker) (l : List Int) : Ker := l.foldl (fun K x => letM K x.toNat) K
theorem letL_snoc (K : Ker) (l : List Int) (x : Int) : letL K (l ++ [x]) = letM (letL K l) x.toNat := by unfold letL; rw [List.foldl_append]; rfl
theorem OKd.letAll : ∀ (l : List Int) {K : Ker}, (∀ x ∈ l, ∃ m : Nat, x = m) → OKd K (fun m => (cntI l m : Nat)) z0 z0 → OK (letL K l)
  | [], K, _, h => h.congr (fun _ => rfl) (fun _ => rfl) (fun _ => rfl)
  | x :: l, K, hl, h => by
    obtain ⟨m, rfl⟩ := hl x (List.mem_cons_self ..)
    refine OKd.letAll l (K := letM K m) (fun y hy => hl y (List.mem_cons_of_mem _ hy)) ?_
    have hc : ∀ j, cntI ((m : Int) :: l) j = cntI l j + if j = m then 1 else 0 := fun j => by
      unfold cntI
      rw [List.countP_cons]
      by_cases e : j = m
      · rw [if_pos e, e, if_pos (by simp)]
      · rw [if_neg e, if_neg (by simp; omega)]
    refine (h.lets (m := m) (by rw [hc, if_pos rfl]; omega)).congr (fun j => ?_) (fun _ => rfl) (fun _ => rfl)
    rw [hc]
    by_cases e : j = m
    · rw [if_pos e, if_pos e]; omega
    · rw [if_neg e, if_neg e]; rfl
/-- Along the way what is still to be let go is there. -/
theorem OKd.letAt : ∀ (pre : List Int) {K : Ker} {x : Int} {t : List Int}, (∀ y ∈ pre ++ x :: t, ∃ m : Nat, y = m) → (pre ++ x :: t).length ≤ 32 → OKd K (fun m => (cntI (pre ++ x :: t) m : Nat)) z0 z0 → ∃ m : Nat, x = m ∧ LetOK (letL K pre) m
  | [], K, x, t, hl, hn, h => by
    obtain ⟨m, rfl⟩ := hl x (by simp)
    have hc : 1 ≤ cntI ((m : Int) :: t) m := by unfold cntI; rw [List.countP_cons, if_pos (by simp)]; omega
    obtain ⟨D, hD⟩ := h.exc m (by show ((cntI ((m : Int) :: t) m : Nat) : Int) ≠ 0; omega)
    have h2 : cntI ((m : Int) :: t) m ≤ 32 := Nat.le_trans List.countP_le_length hn
    exact ⟨m, rfl, h.letOK hD (by show ((cntI ((m : Int) :: t) m : Nat) : Int) ≤ 1000; omega)⟩
  | y :: pre, K, x, t, hl, hn, h => by
    obtain ⟨m, rfl⟩ := hl y (by simp)
    have hc : ∀ j, cntI ((m : Int) :: (pre ++ x :: t)) j = cntI (pre ++ x :: t) j + if j = m then 1 else 0 := fun j => by
      unfold cntI
      rw [List.countP_cons]
      by_cases e : j = m
      · rw [if_pos e, e, if_pos (by simp)]
      · rw [if_neg e, if_neg (by simp; omega)]
    have k := (h.lets (m := m) (by show 1 ≤ ((cntI ((m : Int) :: (pre ++ x :: t)) m : Nat) : Int); rw [hc, if_pos rfl]; omega)).congr (d' := fun j => (cntI (pre ++ x :: t) j : Nat)) (fun j => by
      show (if j = m then ((cntI ((m : Int) :: (pre ++ x :: t)) j : Nat) : Int) - 1 else ((cntI ((m : Int) :: (pre ++ x :: t)) j : Nat) : Int)) = _
      rw [hc]
      by_cases e : j = m
      · rw [if_pos e, if_pos e]; omega
      · rw [if_neg e, if_neg e]; rfl) (fun _ => rfl) (fun _ => rfl)
    have := OKd.letAt pre (K := letM K m) (fun z hz => hl z (List.mem_cons_of_mem _ hz)) (by rw [List.cons_append, List.length_cons] at hn; omega) k
    exact this
def execTab (f : Nat → Pp.Sl) : Nat → Pp.Sl := Pp.gP f (Pp.upto f 32)
def execLs (f : Nat → Pp.Sl) : List Int := Pp.lsP f (Pp.upto f 32)
def execM (K : Ker) (n : Nat) (P : Prc) : Ker := letL (setR K n { P with tab := execTab P.tab }) (execLs P.tab)
theorem upto_has {f : Nat → Pp.Sl} {j : Nat} (hj : j < 32) : j ∈ (Pp.upto f 32).map (fun x => x.1.1) ↔ (f j).tk = true := by
  rw [List.mem_map]
  constructor
  · rintro ⟨x, hx, rfl⟩
    exact ((Pp.mem_upto (Nat.le_refl _)).1 hx).2.1
  · intro h
    exact ⟨(⟨j, hj⟩, (f j).x), (Pp.mem_upto (Nat.le_refl _)).2 ⟨hj, h, rfl⟩, rfl⟩
theorem execTab_at {f : Nat → Pp.Sl} {j : Nat} (hj : j < 32) : execTab f j = if (f j).mr = true ∧ (f j).tk = true then Pp.Sl.none else f j := by
  unfold execTab Pp.gP
  by_cases h : (f j).mr = true ∧ (f j).tk = true
  · rw [if_pos h, if_pos ⟨h.1, (upto_has hj).2 h.2⟩]
  · rw [if_neg h, if_neg (fun h2 => h ⟨h2.1, (upto_has hj).1 h2.2⟩)]
theorem lsP_snoc (f : Nat → Pp.Sl) (pre : List (Fin 32 × Int)) (x : Fin 32 × Int) : Pp.lsP f (pre ++ [x]) = Pp.lsP f pre ++ (if (f x.1.1).mr = true then [x.2] else []) := by
  unfold Pp.lsP
  rw [List.filter_append, List.map_append]
  congr 1
  by_cases h : (f x.1.1).mr = true
  · rw [if_pos h]; simp [h]
  · rw [if_neg h]; simp [h]
theorem cntI_app (l t : List Int) (m : Nat) : cntI (l ++ t) m = cntI l m + cntI t m := by unfold cntI; rw [List.countP_append]
theorem exec_cnt {f : Nat → Pp.Sl} (m : Nat) : ∀ k, k ≤ 32 → sumN (fun i => nm (execTab f i) m) k + cntI (Pp.lsP f (Pp.upto f k)) m = sumN (fun i => nm (f i) m) k
  | 0, _ => rfl
  | k + 1, hk => by
    have ih := exec_cnt (f := f) m k (by omega)
    show sumN (fun i => nm (execTab f i) m) k + nm (execTab f k) m + _ = sumN (fun i => nm (f i) m) k + nm (f k) m
    rw [execTab_at (by omega : k < 32)]
    cases ht : (f k).tk with
    | true =>
      rw [Pp.upto_yes (by omega) ht, lsP_snoc, cntI_app]
      by_cases hm : (f k).mr = true
      · rw [if_pos ⟨hm, rfl⟩, nm_none, if_pos hm]
        have : cntI [(f k).x] m = nm (f k) m := by
          unfold cntI nm
          rw [List.countP_cons]
          by_cases e : (f k).x = (m : Int)
          · rw [if_pos (And.intro ht e : (f k).tk = true ∧ (f k).x = (m : Int))]; simp [e]
          · rw [if_neg (fun h : (f k).tk = true ∧ (f k).x = (m : Int) => e h.2)]; simp [e]
        rw [this]
        omega
      · rw [if_neg (fun h => hm h.1), if_neg hm]
        show _ + (_ + 0) = _
        omega
    | false =>
      rw [Pp.upto_no ht, if_neg (fun h => by cases h.2)]
      omega
theorem OK.exec1 (h : OK K) {n : Nat} {P : Prc} (hP : ask K.procs n = some P) (hl : P.ended = false) : OKd (setR K n { P with tab := execTab P.tab }) (fun m => (cntI (execLs P.tab) m : Nat)) z0 z0 := by
  have hh := h.has n P hP
  refine OKd.procR (P' := { P with tab := execTab P.tab }) h hP rfl (fun he => by rw [show P.ended = true from he] at hl; cases hl) (fun i hi ht => ?_) (fun m => ?_) (fun m hm => ?_)
  · have ht' : (execTab P.tab i).tk = true := ht
    show ∃ m : Nat, (execTab P.tab i).x = m ∧ _
    rw [execTab_at hi] at ht' ⊢
    by_cases e : (P.tab i).mr = true ∧ (P.tab i).tk = true
    · rw [if_pos e] at ht'; cases ht'
    · rw [if_neg e] at ht' ⊢; exact hh i hi ht'
  · have := exec_cnt (f := P.tab) m 32 (Nat.le_refl _)
    show ((cntI (execLs P.tab) m : Nat) : Int) + (sumN (fun i => nm (execTab P.tab i) m) 32 : Nat) = 0 + (sumN (fun i => nm (P.tab i) m) 32 : Nat)
    unfold execLs
    omega
  · have hc : 0 < cntI (execLs P.tab) m := by
      have h1 : ((cntI (execLs P.tab) m : Nat) : Int) ≠ 0 := hm
      omega
    unfold cntI at hc
    obtain ⟨x, hx, hxm⟩ := List.countP_pos_iff.1 hc
    unfold execLs Pp.lsP at hx
    obtain ⟨y, hy, rfl⟩ := List.mem_map.1 hx
    obtain ⟨y1, y2, y3⟩ := (Pp.mem_upto (Nat.le_refl _)).1 (List.mem_filter.1 hy).1
    obtain ⟨k, hk, hD⟩ := hh y.1.1 y1 y2
    have : y.2 = (m : Int) := by simpa using hxm
    rw [show m = k by rw [y3, hk] at this; omega]
    exact hD
theorem OK.execIs (h : OK K) {n : Nat} {P : Prc} (hP : ask K.procs n = some P) : ∀ x ∈ execLs P.tab, ∃ m : Nat, x = m := fun x hx => by
  unfold execLs Pp.lsP at hx
  obtain ⟨y, hy, rfl⟩ := List.mem_map.1 hx
  obtain ⟨y1, y2, y3⟩ := (Pp.mem_upto (Nat.le_refl _)).1 (List.mem_filter.1 hy).1
  obtain ⟨k, hk, hD⟩ := h.has n P hP y.1.1 y1 y2
  exact ⟨k, y3.trans hk⟩
theorem OK.exec (h : OK K) {n : Nat} {P : Prc} (hP : ask K.procs n = some P) (hl : P.ended = false) : OK (execM K n P) := OKd.letAll _ (h.execIs hP) (h.exec1 hP hl)
/-! ### end -/
theorem letM_eq (K : Ker) (m : Nat) : (letM K m).procs = K.procs ∧ (letM K m).lastX = K.lastX ∧ (letM K m).lastD = K.lastD ∧ (letM K m).lastR = K.lastR := by
  unfold letM
  split
  · exact ⟨rfl, rfl, rfl, rfl⟩
  · split
    · exact ⟨rfl, rfl, rfl, rfl⟩
    · split
      · exact ⟨rfl, rfl, rfl, rfl⟩
      · split
        · split
          · split <;> exact ⟨rfl, rfl, rfl, rfl⟩
          · exact ⟨rfl, rfl, rfl, rfl⟩
        · exact ⟨rfl, rfl, rfl, rfl⟩
def closeN (K : Ker) (n fd : Nat) : Ker := match ask K.procs n with
  | some P => closeM K n P fd
  | none => K
def closeL (K : Ker) (n : Nat) (l : List (Fin 32 × Int)) : Ker := l.foldl (fun K x => closeN K n x.1.1) K
theorem closeL_snoc (K : Ker) (n : Nat) (l : List (Fin 32 × Int)) (x : Fin 32 × Int) : closeL K n (l ++ [x]) = closeN (closeL K n l) n x.1.1 := by unfold closeL; rw [List.foldl_append]; rfl
/-- The slots below k let go. -/
def clr (f : Nat → Pp.Sl) (k : Nat) : Nat → Pp.Sl := fun j => if j < k ∧ (f j).tk = true then Pp.Sl.none else f j
theorem clr_zero (f : Nat → Pp.Sl) : clr f 0 = f := by funext j; unfold clr; rw [if_neg (by omega)]
theorem clr_yes {f : Nat → Pp.Sl} {k : Nat} (ht : (f k).tk = true) : Pp.upd (clr f k) k Pp.Sl.none = clr f (k + 1) := by
  funext j
  unfold Pp.upd clr
  by_cases e : j = k
  · rw [if_pos e, if_pos ⟨by omega, by rw [e]; exact ht⟩]
  · rw [if_neg e]
    by_cases h : j < k ∧ (f j).tk = true
    · rw [if_pos h, if_pos ⟨by omega, h.2⟩]
    · rw [if_neg h, if_neg (fun h2 => h ⟨by omega, h2.2⟩)]
theorem clr_no {f : Nat → Pp.Sl} {k : Nat} (ht : (f k).tk = false) : clr f (k + 1) = clr f k := by
  funext j
  unfold clr
  by_cases h : j < k ∧ (f j).tk = true
  · rw [if_pos h, if_pos ⟨by omega, h.2⟩]
  · rw [if_neg h, if_neg (fun h2 => h ⟨by
      have : j ≠ k := fun e => by rw [e, ht] at h2; cases h2.2
      omega, h2.2⟩)]
theorem clr_at {f : Nat → Pp.Sl} {k j : Nat} (h : k ≤ j) : clr f k j = f j := by unfold clr; rw [if_neg (by omega)]
theorem clr_off {f : Nat → Pp.Sl} {i : Nat} (hi : i < 32) : (clr f 32 i).tk = false := by
  unfold clr
  split
  · rfl
  · rename_i h
    cases ht : (f i).tk with
    | false => rfl
    | true => exact absurd ⟨hi, ht⟩ h
theorem closeM_eq (K : Ker) (n : Nat) (P : Prc) (fd : Int) : (closeM K n P fd).lastX = K.lastX ∧ (closeM K n P fd).lastD = K.lastD ∧ (closeM K n P fd).lastR = K.lastR := by
  unfold closeM
  split
  · obtain ⟨_, h2, h3, h4⟩ := letM_eq (setR K n { P with tab := (tcutM P.tab fd).2.2 }) (tcutM P.tab fd).1.toNat
    exact ⟨h2, h3, h4⟩
  · exact ⟨rfl, rfl, rfl⟩
theorem OK.closes (h : OK K) {n : Nat} {P : Prc} (hP : ask K.procs n = some P) (hl : P.ended = false) : ∀ k, k ≤ 32 →
    OK (closeL K n (Pp.upto P.tab k)) ∧ (closeL K n (Pp.upto P.tab k)).procs = put1 K.procs n { P with tab := clr P.tab k } ∧ (closeL K n (Pp.upto P.tab k)).lastX = K.lastX ∧ (closeL K n (Pp.upto P.tab k)).lastD = K.lastD ∧ (closeL K n (Pp.upto P.tab k)).lastR = K.lastR
  | 0, _ => ⟨h, by show K.procs = _; rw [clr_zero]; exact (put1_same h.num.or_ hP).symm, rfl, rfl, rfl⟩
  | k + 1, hk => by
    obtain ⟨i1, i2, i3⟩ := OK.closes h hP hl k (by omega)
    cases ht : (P.tab k).tk with
    | false => rw [Pp.upto_no ht, clr_no ht]; exact ⟨i1, i2, i3⟩
    | true =>
      rw [Pp.upto_yes (by omega) ht, closeL_snoc]
      have hP2 : ask (closeL K n (Pp.upto P.tab k)).procs n = some { P with tab := clr P.tab k } := by rw [i2, ask_put hP, if_pos rfl]
      obtain ⟨K1, hK1⟩ : ∃ K1, closeL K n (Pp.upto P.tab k) = K1 := ⟨_, rfl⟩
      rw [hK1] at i1 i2 i3 hP2 ⊢
      have hN : closeN K1 n k = closeM K1 n { P with tab := clr P.tab k } k := by unfold closeN; rw [hP2]
      show OK (closeN K1 n k) ∧ (closeN K1 n k).procs = _ ∧ _
      rw [hN]
      have hcut : tcutM (clr P.tab k) (k : Int) = ((P.tab k).x, 0, Pp.upd (clr P.tab k) k Pp.Sl.none) := by
        unfold tcutM
        rw [if_pos (by omega), Int.toNat_natCast, clr_at (Nat.le_refl _), if_pos ht]
      refine ⟨i1.close hP2 hl k, ?_, ?_⟩
      · unfold closeM
        rw [show (tcutM ({ P with tab := clr P.tab k } : Prc).tab (k : Int)) = _ from hcut]
        rw [if_pos rfl]
        rw [(letM_eq _ _).1]
        show put1 K1.procs n _ = _
        rw [i2, clr_yes ht]
        unfold put1
        rw [List.map_map]
        apply List.map_congr_left
        intro p _
        show (if (if p.1 = n then (n, ({ P with tab := clr P.tab k } : Prc)) else p).1 = n then _ else _) = _
        by_cases e : p.1 = n
        · rw [if_pos e, if_pos rfl, if_pos e]
        · rw [if_neg e, if_neg e]
      · obtain ⟨j1, j2, j3⟩ := closeM_eq K1 n { P with tab := clr P.tab k } k
        exact ⟨j1.trans i3.1, j2.trans i3.2.1, j3.trans i3.2.2⟩
def kidTo (n : Nat) (P : Prc) : Prc := if P.parent = n then { P with parent := 1 } else P
theorem kidTo_eq (n : Nat) (P : Prc) : (kidTo n P).tab = P.tab ∧ (kidTo n P).num = P.num ∧ (kidTo n P).ended = P.ended ∧ (kidTo n P).dir = P.dir ∧ (kidTo n P).mask = P.mask ∧ (kidTo n P).status = P.status := by unfold kidTo; split <;> exact ⟨rfl, rfl, rfl, rfl, rfl, rfl⟩
theorem ask_map {X : Type} (g : X → X) (l : List (Nat × X)) (n : Nat) : ask (l.map (fun p => (p.1, g p.2))) n = (ask l n).map g := by
  induction l with
  | nil => rfl
  | cons p t ih =>
    rw [List.map_cons]
    unfold ask
    by_cases e : p.1 = n
    · rw [if_pos e, if_pos e]; rfl
    · rw [if_neg e, if_neg e]; exact ih
theorem OKd.kids (h : OKd K d er et) (n : Nat) : OKd { K with procs := K.procs.map (fun p => (p.1, kidTo n p.2)) } d er et := by
  have hk : (K.procs.map (fun p => (p.1, kidTo n p.2))).map (fun p : Nat × Prc => p.1) = K.procs.map (fun p => p.1) := by rw [List.map_map]; rfl
  have hr : ∀ m, refs { K with procs := K.procs.map (fun p => (p.1, kidTo n p.2)) } m = refs K m := fun m => by
    unfold refs
    show wsum _ (K.procs.map (fun p => (p.1, kidTo n p.2))) = wsum _ K.procs
    induction K.procs with
    | nil => rfl
    | cons p t ih =>
      rw [List.map_cons]
      show slots (kidTo n p.2).tab m + wsum _ _ = slots p.2.tab m + wsum _ _
      rw [(kidTo_eq n p.2).1, ih]
  have hask : ∀ k Q, ask (K.procs.map (fun p => (p.1, kidTo n p.2))) k = some Q → ∃ P, ask K.procs k = some P ∧ Q = kidTo n P := fun k Q hQ => by
    rw [ask_map] at hQ
    cases hP : ask K.procs k with
    | none => rw [hP] at hQ; cases hQ
    | some P => rw [hP] at hQ; exact ⟨P, rfl, (Option.some.inj hQ).symm⟩
  refine ⟨⟨h.num.ox, h.num.od, ?_, h.num.lx, h.num.ld, fun p hp => ?_, h.num.bx, h.num.bd, h.num.br⟩, by show (K.procs.map _).length ≤ 24; rw [List.length_map]; exact h.len, fun m D hD => ?_, fun k Q hQ => ?_, h.exc, fun k Q hQ => ?_, fun k Q hQ => ?_, h.pip, h.nop, h.pr, h.exr⟩
  · show ((K.procs.map (fun p => (p.1, kidTo n p.2))).map (fun p : Nat × Prc => p.1)).Pairwise (· < ·)
    rw [hk]
    exact h.num.or_
  · obtain ⟨r, hr, rfl⟩ := List.mem_map.1 hp
    exact h.num.lr r hr
  · rw [hr]; exact h.cnt m D hD
  · obtain ⟨P, hP, rfl⟩ := hask k Q hQ
    rw [(kidTo_eq n P).1]
    exact h.has k P hP
  · obtain ⟨P, hP, rfl⟩ := hask k Q hQ
    rw [(kidTo_eq n P).2.1]
    exact h.key k P hP
  · obtain ⟨P, hP, rfl⟩ := hask k Q hQ
    rw [(kidTo_eq n P).2.2.1, (kidTo_eq n P).1]
    exact h.dead k P hP
/-- end: what is left. -/
def endK (K : Ker) (n : Nat) (P : Prc) : Ker :=
  { setF (closeL K n (Pp.upto P.tab 32)) (DropM (closeL K n (Pp.upto P.tab 32)).fs P.dir).2 with procs := (closeL K n (Pp.upto P.tab 32)).procs.map (fun p => (p.1, kidTo P.num p.2)) }
def endM (K : Ker) (n : Nat) (P : Prc) (st : Int) : Ker := setR (endK K n P) n { kidTo P.num { P with tab := clr P.tab 32 } with ended := true, status := st }
theorem endK_ask (h : OK K) {n : Nat} {P : Prc} (hP : ask K.procs n = some P) (hl : P.ended = false) : ask (endK K n P).procs n = some (kidTo P.num { P with tab := clr P.tab 32 }) := by
  obtain ⟨_, i2, _⟩ := h.closes hP hl 32 (Nat.le_refl _)
  show ask ((closeL K n (Pp.upto P.tab 32)).procs.map (fun p => (p.1, kidTo P.num p.2))) n = _
  rw [ask_map, i2, ask_put hP, if_pos rfl]
  rfl
theorem OK.endK (h : OK K) {n : Nat} {P : Prc} (hP : ask K.procs n = some P) (hl : P.ended = false) : OK (Kn.endK K n P) := by
  obtain ⟨i1, _⟩ := h.closes hP hl 32 (Nat.le_refl _)
  exact (i1.fileF (DropM (closeL K n (Pp.upto P.tab 32)).fs P.dir).2).kids P.num
theorem OK.over (h : OK K) {n : Nat} {P : Prc} (hP : ask K.procs n = some P) (hl : P.ended = false) (st : Int) : OK (endM K n P st) := by
  have k1 := h.endK hP hl
  have hP2 := endK_ask h hP hl
  unfold endM
  obtain ⟨Q, hQ⟩ : ∃ Q, kidTo P.num { P with tab := clr P.tab 32 } = Q := ⟨_, rfl⟩
  have hQt : Q.tab = clr P.tab 32 := by rw [← hQ, (kidTo_eq _ _).1]
  rw [hQ] at hP2 ⊢
  refine OKd.procR (P' := { Q with ended := true, status := st }) k1 hP2 rfl (fun _ i hi => by show (Q.tab i).tk = false; rw [hQt]; exact clr_off hi) (fun i hi ht => ?_) (fun _ => rfl) (fun m hm => absurd rfl hm)
  have ht' : (Q.tab i).tk = true := ht
  rw [hQt, clr_off hi] at ht'
  cases ht'
/-- wait: a process that has ended is gone. -/
theorem OK.wait (h : OK K) {m : Nat} {P : Prc} (hP : ask K.procs m = some P) (he : P.ended = true) : OK (cutKR K m) := by
  have hz : ∀ j, slots P.tab j = 0 := fun j => slots_off (h.dead m P hP he)
  have hr : ∀ j, refs (cutKR K m) j = refs K j := fun j => by
    have := wsum_cut (f := fun P : Prc => slots P.tab j) h.num.or_ hP
    have := hz j
    show wsum _ (cut1 K.procs m) = wsum _ K.procs
    omega
  have hask : ∀ k Q, ask (cut1 K.procs m) k = some Q → ask K.procs k = some Q := fun k Q hQ => by
    rw [ask_cut] at hQ
    by_cases e : k = m
    · rw [if_pos e] at hQ; cases hQ
    · rw [if_neg e] at hQ; exact hQ
  refine ⟨nmbCR h.num m, Nat.le_trans (List.length_filter_le ..) h.len, fun j D hD => by rw [hr]; exact h.cnt j D hD, fun k Q hQ => h.has k Q (hask k Q hQ), h.exc, fun k Q hQ => h.key k Q (hask k Q hQ), fun k Q hQ => h.dead k Q (hask k Q hQ), h.pip, h.nop, h.pr, h.exr⟩
/-- A process with the same descriptors. -/
theorem OK.proc (h : OK K) {n : Nat} {P P' : Prc} (hP : ask K.procs n = some P) (hl : P'.ended = false) (hn : P'.num = P.num) (ht : ∀ i, (P'.tab i).tk = (P.tab i).tk ∧ (P'.tab i).x = (P.tab i).x) : OK (setR K n P') := by
  have hs : ∀ m, slots P'.tab m = slots P.tab m := fun m => sumN_congr 32 (fun i _ => by unfold nm; rw [(ht i).1, (ht i).2])
  refine OKd.procR h hP hn (fun e => by rw [hl] at e; cases e) (fun i hi h1 => ?_) (fun m => by rw [hs]) (fun m hm => absurd rfl hm)
  rw [(ht i).1] at h1
  rw [(ht i).2]
  exact h.has n P hP i hi h1
theorem OK.mark (h : OK K) {n : Nat} {P : Prc} (hP : ask K.procs n = some P) (hl : P.ended = false) (fd : Int) (b : Bool) : OK (setR K n { P with tab := (tmarkM P.tab fd b).2 }) := by
  refine h.proc hP hl rfl (fun i => ?_)
  show ((tmarkM P.tab fd b).2 i).tk = _ ∧ ((tmarkM P.tab fd b).2 i).x = _
  unfold tmarkM
  split
  · split
    · show (Pp.upd P.tab fd.toNat { P.tab fd.toNat with mr := b } i).tk = _ ∧ (Pp.upd P.tab fd.toNat { P.tab fd.toNat with mr := b } i).x = _
      unfold Pp.upd
      by_cases e : i = fd.toNat
      · rw [if_pos e, e]; exact ⟨rfl, rfl⟩
      · rw [if_neg e]; exact ⟨rfl, rfl⟩
    · exact ⟨rfl, rfl⟩
  · exact ⟨rfl, rfl⟩
theorem OK.desc (h : OK K) {m : Nat} {D D' : Dsc} (hD : ask K.descs m = some D) (hk : D'.kind = D.kind) (hn : D'.n = D.n) (hp : D'.pipe = D.pipe) (hr : D'.refs = D.refs) : OK (setD K m D') :=
  (OKd.descD h hD hk hn hp (by rw [hr]; exact (h.cnt m D hD).2)).congr (fun j => by rw [hr]; split <;> simp) (fun _ => rfl) (fun _ => rfl)
theorem OK.data (h : OK K) {x : Nat} {s s' : Pp.St} (hs : ask K.pipes x = some s) (h1 : s'.r = s.r) (h2 : s'.t = s.t) (h3 : s'.size = s.size) (h4 : s'.data.length ≤ 64) : OK (setX K x s') := by
  obtain ⟨p1, p2, p3, p4, p5⟩ := h.pr x s hs
  exact OKd.pipeX h hs (by rw [h3]; exact p4) h4 (by omega) (by show s'.r + 0 = s.r + 0; omega) (by show s'.t + 0 = s.t + 0; omega) (fun _ _ => ⟨rfl, rfl⟩)
end
end Go.Proofs.YtmilagppbepnbaaGreat.Kn
/- Letting go keeps the tree's bounds; a process's cell turned. No condition. -/
namespace Go.Proofs.YtmilagppbepnbaaGreat
open Go.RowKit Go.Shelf Go.PlainAid
set_option linter.unusedVariables false
set_option linter.unusedSimpArgs false
section
variable {c : Nat} {f : Fs}
theorem WF.touch0 (h : WF c f) {i : Nat} {I I' : Ino} (hi : f[i]? = some (some I)) (h1 : I'.kind = I.kind) (h2 : I'.ents = I.ents) (h3 : I'.links = I.links) (h4 : I'.parent = I.parent) (h5 : I.isDir = true → I'.data = I.data) (h6 : bytesM (f.set i (some I')) ≤ 65536) (h7 : I'.holds ≤ c) : WF (c) (f.set i (some I')) := by
  have hil := (List.getElem?_eq_some_iff.1 hi).1
  have hget : ∀ m, (f.set i (some I'))[m]? = if m = i then some (some I') else f[m]? := fun m => by
    by_cases e : m = i
    · rw [if_pos e, e, List.getElem?_set_self hil]
    · rw [if_neg e, List.getElem?_set_ne (fun h => e h.symm)]
  have hsim : ∀ (m : Nat) M, f[m]? = some (some M) → ∃ M', (f.set i (some I'))[m]? = some (some M') ∧ M'.kind = M.kind ∧ M'.ents = M.ents ∧ M'.links = M.links ∧ M'.parent = M.parent := fun m M hm => by
    rw [hget]
    by_cases e : m = i
    · subst e
      rw [hi] at hm
      cases hm
      exact ⟨I', if_pos rfl, h1, h2, h3, h4⟩
    · exact ⟨M, by rw [if_neg e, hm], rfl, rfl, rfl, rfl⟩
  have hcnt : ∀ n, cntF (f.set i (some I')) n = cntF f n := fun n => by
    have := sumF_set (fun I => cntE I.ents n) f i _ (some I') hi
    simp only [optF, h2] at this
    unfold cntF
    omega
  have htot : sumF (fun I => I.ents.length) (f.set i (some I')) = sumF (fun I => I.ents.length) f := by
    have := sumF_set (fun I => I.ents.length) f i _ (some I') hi
    simp only [optF, h2] at this
    omega
  have hdeep : ∀ d n, Deep f d n → Deep (f.set i (some I')) d n := fun d n hd => deep_on (fun _ => True) (fun n M _ _ hn => by
    obtain ⟨m, rfl, hm⟩ := nat_node hn
    obtain ⟨M', k1, _, _, _, k2⟩ := hsim m M hm
    exact ⟨⟨M', node_nat k1, k2⟩, trivial⟩) hd trivial
  have hOk : ∀ (m : Nat) M, f[m]? = some (some M) → ∀ M', M'.kind = M.kind → M'.ents = M.ents → M'.links = M.links → M'.parent = M.parent → (M.isDir = true → M'.data = M.data) → M'.holds ≤ c → OkI (c) (f.set i (some I')) m M' := fun m M hm M' k1 k2 k3 k4 k5 k6 => by
    have k := h.ino m M hm
    have hd : M'.isDir = M.isDir := by unfold Ino.isDir; rw [k1]
    refine ⟨by rw [k2]; exact k.srt, fun e he => ?_, by rw [k2]; exact k.name, by rw [k1]; exact k.kind, by rw [hd, k2]; exact k.file, fun hh => ?_, by rw [hd, k3]; exact k.one, by rw [hd, k3, k2]; exact k.gone, fun hh hl h0 => ?_, by rw [hcnt, k3]; exact k.cnt, by rw [k3]; have := k.links; omega, k6, fun hh hl => ?_⟩
    · rw [k2] at he
      obtain ⟨h8, J, hJ⟩ := k.live e he
      obtain ⟨J', hJ', _⟩ := hsim _ J hJ
      exact ⟨h8, J', hJ'⟩
    · rw [hd] at hh
      rw [k5 hh]
      exact k.dat hh
    · rw [hd] at hh
      rw [k3] at hl
      obtain ⟨m', P, x, hp, hP, hx⟩ := k.up hh hl h0
      obtain ⟨P', hP', _, q2, _⟩ := hsim _ P hP
      exact ⟨m', P', x, by rw [k4]; exact hp, hP', by rw [q2]; exact hx⟩
    · rw [hd] at hh
      rw [k3] at hl
      obtain ⟨d, hd⟩ := k.deep hh hl
      exact ⟨d, hdeep _ _ hd⟩
  refine ⟨by rw [List.length_set]; exact h.len, ?_, h6, by rw [htot]; have := h.tot; omega, fun m M hm => ?_⟩
  · obtain ⟨R, hR, k1, k2, k3⟩ := h.root
    obtain ⟨R', hR', q1, _, q3, q4⟩ := hsim 0 R hR
    refine ⟨R', hR', ?_, by rw [q3]; exact k2, by rw [q4]; exact k3⟩
    unfold Ino.isDir at k1 ⊢
    rw [q1]
    exact k1
  · rw [hget] at hm
    by_cases e : m = i
    · subst e
      rw [if_pos rfl] at hm
      cases hm
      exact hOk m I hi _ h1 h2 h3 h4 h5 h7
    · rw [if_neg e] at hm
      exact hOk m M hm M rfl rfl rfl rfl (fun _ => rfl) (by have := (h.ino m M hm).holds; omega)
theorem drop_wf0 (h : WF c f) (n : Int) : WF (c) (DropM f n).2 := by
  unfold DropM
  cases hn : node f n with
  | none => exact h
  | some I =>
    obtain ⟨i, rfl, _, hi⟩ := node_some hn
    dsimp only
    split
    · exact h
    · rw [modN_at hi, show ((i : Int) + 1).toNat = i + 1 by omega]
      have := h.bytes
      have h2 := set_bytes (I' := { I with holds := I.holds - 1 }) hi
      dsimp only at h2
      have h3 : WF (c) (f.set i (some { I with holds := I.holds - 1 })) := h.touch0 hi rfl rfl rfl rfl (fun _ => rfl) (by omega) (by have := (h.ino i I hi).holds; dsimp only; omega)
      rw [relM_at (set_get hi)]
      split
      · rename_i h4
        exact h3.freed (set_get hi) h4.1
      · exact h3
end
end Go.Proofs.YtmilagppbepnbaaGreat
namespace Go.Proofs.YtmilagppbepnbaaGreat.Kn
open Go.RowKit Go.PlainAid
section
variable {w w' : World} {B : Ix → Nat → Prop} {q : Nat} {K : Ker} {M : Mp} {c : Nat}
theorem letM_wf (hw : WF c K.fs) (m : Nat) : WF c (letM K m).fs := by
  unfold letM
  split
  · exact hw
  · split
    · exact hw
    · split
      · exact drop_wf0 hw _
      · split
        · split
          · split <;> exact hw
          · exact hw
        · exact hw
theorem closeM_wf (hw : WF c K.fs) (n : Nat) (P : Prc) (fd : Int) : WF c (closeM K n P fd).fs := by
  unfold closeM
  split
  · exact letM_wf (K := setR K n { P with tab := (tcutM P.tab fd).2.2 }) hw _
  · exact hw
theorem closeN_wf (hw : WF c K.fs) (n fd : Nat) : WF c (closeN K n fd).fs := by
  unfold closeN
  split
  · exact closeM_wf hw _ _ _
  · exact hw
theorem closeL_wf (n : Nat) : ∀ (l : List (Fin 32 × Int)) {K : Ker}, WF c K.fs → WF c (closeL K n l).fs
  | [], _, h => h
  | x :: l, K, h => closeL_wf n l (K := closeN K n x.1.1) (closeN_wf h n x.1.1)
theorem letL_wf : ∀ (l : List Int) {K : Ker}, WF c K.fs → WF c (letL K l).fs
  | [], _, h => h
  | x :: l, K, h => letL_wf l (K := letM K x.toNat) (letM_wf h x.toNat)
theorem turn_pc (h : KerIs w B q K M) {n : Nat} {P P' : Prc} (hP : ask K.procs n = some P) (i : Nat) (v : Value) (hc : ∀ tb, (pcells P tb).toArray.setIfInBounds i v = (pcells P' tb).toArray) (ht : P'.tab = P.tab) : KerIs (w.setCell ⟨M.br n, i, none⟩ v) B q (setR K n P') M := by
  obtain ⟨hB, hT, hS1, hS2, hne⟩ : PrcAt w (B (.proc n)) (M.br n) (M.bt n) P := h.part (.proc n) P hP
  have k := h.turn (.proc n) (S := B (.proc n)) (K' := setR K n P') (M' := M) (w' := w.setCell ⟨M.br n, i, none⟩ v) (fun g hg => .inl hg) (fun g hg => by simpa using h.lt _ _ hg) ((Frm.refl _ _).setCell (a := ⟨M.br n, i, none⟩) (.inl hS1) v)
    (fun Q hQ => by
      have h1 : ask (put1 K.procs n P') n = some Q := hQ
      rw [ask_put hP, if_pos rfl] at h1
      cases h1
      exact ⟨by rw [← hc]; exact hB.set_ i v, by rw [ht]; exact hT.keep (Below.heap_setCell _ _ _ _ hne), hS1, hS2, hne⟩) (fun j hj hp => by
      cases j with
      | own =>
        obtain ⟨xv, dv, rv, o1, o2, k⟩ := hp
        exact ⟨xv, dv, rv, o1, o2, k.blk, k.rx, k.rd, by
          show World.ownsRow _ 0 _ 2 rv (put1 K.procs n P').length (flat rcs (rowsOf (put1 K.procs n P') M.br))
          rw [put1_len, put1_rows]; exact k.rr, k.p1, k.p2, k.sq, k.sx, k.sd, k.sr, k.s1, k.s2, k.ne⟩
      | fs => exact hp
      | pipe m => exact hp
      | desc m => exact hp
      | proc m =>
        intro Q hQ
        have h1 : ask (put1 K.procs n P') m = some Q := hQ
        rw [ask_put hP, if_neg (fun e => hj (by rw [e]))] at h1
        exact hp Q h1) (nmbR h.num n _)
  rw [upX_same] at k
  exact k
end
end Go.Proofs.YtmilagppbepnbaaGreat.Kn
/- The kernel: child, wait. Condition: the kernel lies as stated. -/
namespace Go.Proofs.YtmilagppbepnbaaGreat.Kn
open Go.RowKit Go.PlainAid
set_option linter.unusedVariables false
set_option linter.unusedSimpArgs false
attribute [local go_sem] Oper.semAt_some
/-- Is a process asked for? -/
def asked (n num : Nat) (pid : Int) (p : Nat × Prc) : Bool := (p.2.parent == num) && !(p.1 == n) && (pid == -1 || pid == (p.1 : Int))
def isKid (n num : Nat) (pid : Int) (p : Nat × Prc) : Bool := asked n num pid p && p.2.ended
def childM (K : Ker) (n : Nat) (P : Prc) (pid : Int) : Option Nat × Int := match K.procs.find? (isKid n P.num pid) with
  | some p => (some p.1, 0)
  | none => (none, if K.procs.any (asked n P.num pid) then 0 else 10)
section
variable {w w' : World} {B : Ix → Nat → Prop} {q : Nat} {K K' : Ker} {M : Mp} {c : Nat}
theorem child_ask {n : Nat} {P : Prc} {pid : Int} {m : Nat} (ho : OrdK K.procs) (h : (childM K n P pid).1 = some m) : ∃ C, ask K.procs m = some C ∧ C.ended = true ∧ C.parent = P.num ∧ m ≠ n ∧ (childM K n P pid).2 = 0 := by
  unfold childM at h ⊢
  cases hf : K.procs.find? (isKid n P.num pid) with
  | none => rw [hf] at h; cases h
  | some p =>
    rw [hf] at h
    cases h
    have h1 := List.find?_some hf
    unfold isKid asked at h1
    simp only [Bool.and_eq_true, beq_iff_eq, Bool.not_eq_true', beq_eq_false_iff_ne] at h1
    exact ⟨p.2, ask_of ho (List.mem_of_find?_eq_some hf), h1.2, h1.1.1.1, h1.1.1.2, rfl⟩
def waitM (K : Ker) (n : Nat) (P : Prc) (pid : Int) : Int × Int × Int × Ker := match (childM K n P pid).1 with
  | none => (0, 0, (childM K n P pid).2, K)
  | some m => (m, (match ask K.procs m with | some C => C.status | none => 0), 0, cutKR K m)
end
end Go.Proofs.YtmilagppbepnbaaGreat.Kn
/- The kernel: open, what it is. Condition: it lies as stated; the trees on the way hold what the tree holds along all calls. -/
namespace Go.Proofs.YtmilagppbepnbaaGreat.Kn
open Go.RowKit Go.PlainAid
set_option linter.unusedVariables false
set_option linter.unusedSimpArgs false
attribute [local go_sem] Oper.semAt_some
/-- What is opened: its number, the error, the tree behind. -/
def findM (K : Ker) (P : Prc) (s : ByteArray) (flags mode : Int) : Int × Int × Fs :=
  if (WalkM K.fs P.dir s).2 = 2 ∧ flg flags 4 = true then ((CreateM K.fs P.dir s (bits .andNot .i64 mode P.mask)).1, (CreateM K.fs P.dir s (bits .andNot .i64 mode P.mask)).2.1, (CreateM K.fs P.dir s (bits .andNot .i64 mode P.mask)).2.2)
  else if (WalkM K.fs P.dir s).2 = 0 then ((WalkM K.fs P.dir s).1, mayOpenM K (WalkM K.fs P.dir s).1 flags, K.fs)
  else ((WalkM K.fs P.dir s).1, (WalkM K.fs P.dir s).2, K.fs)
def cutF (f : Fs) (i flags : Int) : Fs := if flg flags 16 && flg flags 2 then (TruncM f i 0).2 else f
def openM (K : Ker) (n : Nat) (P : Prc) (s : ByteArray) (flags mode : Int) : Int × Int × Ker :=
  if (bits .andNot .i64 flags 63 != 0) || !flg flags 3 then (0, 22, K)
  else if tfreeM P.tab = 0 then (0, 24, K)
  else if (findM K P s flags mode).2.1 ≠ 0 then (0, (findM K P s flags mode).2.1, setF K (findM K P s flags mode).2.2)
  else ((tputM P.tab ((K.lastD : Int) + 1) 0).1, 0, instM (setF K (HoldM (cutF (findM K P s flags mode).2.2 (findM K P s flags mode).1 flags) (findM K P s flags mode).1).2) n P ⟨2, (findM K P s flags mode).1.toNat, 0, 0, flags, none, ⟨#[]⟩⟩)
end Go.Proofs.YtmilagppbepnbaaGreat.Kn
/- The kernel: writeFile. Condition: it lies as stated; where it is written is no great number. -/
namespace Go.Proofs.YtmilagppbepnbaaGreat.Kn
open Go.RowKit Go.PlainAid
set_option linter.unusedVariables false
set_option linter.unusedSimpArgs false
attribute [local go_sem] Oper.semAt_some
def wrAt (K : Ker) (D : Dsc) : Nat := if flg D.flags 32 then sizeM K.fs D.n else D.at_
def writeFileM (K : Ker) (m : Nat) (D : Dsc) (s : ByteArray) : Int × Int × Ker :=
  ((WriteM K.fs D.n (wrAt K D) s).1, (WriteM K.fs D.n (wrAt K D) s).2.1, if (WriteM K.fs D.n (wrAt K D) s).2.1 = 0 then setD (setF K (WriteM K.fs D.n (wrAt K D) s).2.2) m { D with at_ := wrAt K D + (WriteM K.fs D.n (wrAt K D) s).1 } else setF K (WriteM K.fs D.n (wrAt K D) s).2.2)
theorem writeM_le (f : Fs) (n a : Int) (s : ByteArray) : (WriteM f n a s).1 ≤ s.size := by
  unfold WriteM
  split
  · exact Nat.zero_le _
  · repeat (first | split | exact Nat.zero_le _ | exact Nat.le_refl _)
theorem size_le {c : Nat} {f : Fs} (hw : WF c f) (hc : c ≤ 5000) (n : Int) : sizeM f n ≤ 70000 := by
  unfold sizeM
  cases hn : node f n with
  | none => exact Nat.zero_le _
  | some I =>
    obtain ⟨i, h1, _, h3⟩ := node_some hn
    have hf := (hw.fine hc).2 i I h3
    show I.size ≤ _
    unfold Ino.size
    split
    · have := hf.el; omega
    · have := hf.dl; omega
theorem gen_w {α : Type} {Q : α → Prop} (P : α → Prop) (w : α) (hP : P w) (h : ∀ W, P W → Q W) : Q w := h w hP
end Go.Proofs.YtmilagppbepnbaaGreat.Kn
/- The kernel: read and write at a pipe's end. Condition: the kernel lies as stated; the pipe is there; who writes finds a reader. -/
namespace Go.Proofs.YtmilagppbepnbaaGreat.Kn
open Go.RowKit Go.PlainAid
set_option linter.unusedVariables false
set_option linter.unusedSimpArgs false
attribute [local go_sem] Oper.semAt_some
section
variable {w w' : World} {B : Ix → Nat → Prop} {q : Nat} {K K' : Ker} {M : Mp} {c : Nat}
theorem kp_from (hb : Below w.heap.size w w') {w2 : World} (hk : KP (AllX B) w' K M w2 q K') : KP (AllX B) w K M w2 q K' :=
  KP.trans (K1 := K) (fun g hg => .inl hg) (Frm.of_below hb) (MExt.refl _ _) (Nat.le_refl _) (Nat.le_refl _) (Nat.le_refl _) hk
theorem xRead_any (h : KerIs w B q K M) {x : Nat} {s : Pp.St} (hs : ask K.pipes x = some s) (k : Int) (hk : k ≤ 9223372036854775807) :
    Calls Tryz.prog 191 #[.pointer (some ⟨M.bx x, 0, none⟩), .int .i64 k] w fun e w' => e = .returned (.tuple #[.string ⟨(if s.readErr k = 0 then s.got k else []).toArray⟩, .int .i64 (s.readErr k)]) ∧ KP (AllX B) w K M w' q (setX K x (if s.readErr k = 0 then s.read k else s)) := by
  obtain ⟨rb, h1, h2, h3⟩ : PipAt w (B (.pipe x)) (M.bx x) s := h.part (.pipe x) s hs
  refine (Pp.read_any k w h1 hk).mono fun e w' ⟨he, hp, hF⟩ => ⟨he, ?_⟩
  exact step_X h hs (S := B (.pipe x)) ⟨rb, hp, h2, h3⟩ (fun g hg => .inl hg) (fun g hg => Nat.lt_of_lt_of_le (h.lt _ _ hg) hF.size) (frm_of_pp hF h2 h3)
theorem xWrite_any (h : KerIs w B q K M) {x : Nat} {s : Pp.St} (hs : ask K.pipes x = some s) (t : ByteArray) (ht : t.size ≤ maxLen) :
    Calls Tryz.prog 193 #[.pointer (some ⟨M.bx x, 0, none⟩), .string t] w fun e w' => e = .returned (.tuple #[.int .i64 (s.wrote t.data.toList), .int .i64 (s.writeErr t.data.toList)]) ∧ KP (AllX B) w K M w' q (setX K x (s.written t.data.toList)) := by
  obtain ⟨rb, h1, h2, h3⟩ : PipAt w (B (.pipe x)) (M.bx x) s := h.part (.pipe x) s hs
  refine (Pp.write_any t w h1 ht).mono fun e w' ⟨he, hp, hF⟩ => ⟨he, ?_⟩
  exact step_X h hs (S := B (.pipe x)) ⟨rb, hp, h2, h3⟩ (fun g hg => .inl hg) (fun g hg => Nat.lt_of_lt_of_le (h.lt _ _ hg) hF.size) (frm_of_pp hF h2 h3)
theorem xWaits_any (h : KerIs w B q K M) {x : Nat} {s : Pp.St} (hs : ask K.pipes x = some s) (b : Bool) :
    Calls Tryz.prog 86 #[.pointer (some ⟨M.bx x, 0, none⟩), .bool b] w fun e w' => e = .returned (.bool (s.waits b)) ∧ Below w.heap.size w w' := by
  obtain ⟨rb, h1, h2, h3⟩ : PipAt w (B (.pipe x)) (M.bx x) s := h.part (.pipe x) s hs
  exact (Pp.waits_any b w h1).mono fun e w' ⟨he, n, hn⟩ => ⟨he, by rw [hn]; exact ⟨rfl, rfl, rfl, Nat.le_refl _, fun _ _ => rfl⟩⟩
/-- A description's cells that are read. -/
theorem dsc_see (h : KerIs w B q K M) {m : Nat} {D : Dsc} (hD : ask K.descs m = some D) : w.cell? ⟨M.bd m, 0, none⟩ = some (.int .i64 D.kind) ∧ w.cell? ⟨M.bd m, 1, none⟩ = some (.int .i64 D.n) ∧ w.cell? ⟨M.bd m, 2, none⟩ = some (.int .i64 D.at_) ∧ w.cell? ⟨M.bd m, 5, none⟩ = some (ptrV (D.pipe.map M.bx)) ∧ M.bd m < w.heap.size := by
  obtain ⟨hB, hS⟩ : DscAt M.bx w (B (.desc m)) (M.bd m) D := h.part (.desc m) D hD
  exact ⟨hB.cell 0, hB.cell 1, hB.cell 2, hB.cell 5, hB.lt⟩
set_option maxRecDepth 100000 in
set_option maxHeartbeats 4000000 in
theorem read_pipe (h : KerIs w B q K M) {n : Nat} {P : Prc} (hP : ask K.procs n = some P) (fd : Int) {m : Nat} {D : Dsc} (hm : readN K P fd = some m) (hD : ask K.descs m = some D) (hkd : D.kind = 3) (hp : D.pipe = some D.n) {s : Pp.St} (hs : ask K.pipes D.n = some s) (k : Int) (k0 : 0 ≤ k) (k9 : k ≤ 9223372036854775807) :
    Calls Tryz.prog 137 #[.pointer (some ⟨q, 0, none⟩), .pointer (some ⟨M.br n, 0, none⟩), .int .i64 fd, .int .i64 k] w fun e w' => e = .returned (.tuple #[.string ⟨(if s.readErr k = 0 then s.got k else []).toArray⟩, .int .i64 (s.readErr k)]) ∧ KP (AllX B) w K M w' q (setX K D.n (if s.readErr k = 0 then s.read k else s)) := by
  have hr := readable_any h hP fd
  rw [hm] at hr
  obtain ⟨s0, _, _, s5, hlt⟩ := dsc_see h hD
  rw [hkd] at s0
  rw [hp] at s5
  have hpr := Lib.hid (fun (W : World) (hW : Below w.heap.size w W) => xRead_any (h.below hW) hs k k9)
  obtain ⟨d, hd⟩ : ∃ d, M.bd m = d := ⟨_, rfl⟩
  obtain ⟨x, hx⟩ : ∃ x, M.bx D.n = x := ⟨_, rfl⟩
  have hr2 : Hid (Calls Tryz.prog 85 #[.pointer (some ⟨q, 0, none⟩), .pointer (some ⟨M.br n, 0, none⟩), .int .i64 fd] w fun e w' => e = .returned (.pointer (some ⟨d, 0, none⟩)) ∧ Below w.heap.size w w') := Lib.hid (by rw [← hd]; exact hr)
  have q5 : w.cell? ⟨d, 5, none⟩ = some (.pointer (some ⟨x, 0, none⟩)) := by rw [← hd, ← hx]; exact s5
  have q0 : w.cell? ⟨d, 0, none⟩ = some (.int .i64 3) := by rw [← hd]; exact s0
  rw [hx] at hpr
  rw [hd] at hlt
  obtain ⟨st, hst⟩ : ∃ st, (⟨(if s.readErr k = 0 then s.got k else []).toArray⟩ : ByteArray) = st := ⟨_, rfl⟩
  obtain ⟨s', hs'⟩ : ∃ s', (if s.readErr k = 0 then s.read k else s) = s' := ⟨_, rfl⟩
  rw [hst, hs'] at hpr ⊢
  obtain ⟨er, her⟩ : ∃ er, s.readErr k = er := ⟨_, rfl⟩
  obtain ⟨b, hb⟩ : ∃ b, M.br n = b := ⟨_, rfl⟩
  rw [her] at hpr ⊢
  rw [hb] at hr2 ⊢
  have g0 := Lib.hid q0
  have g5 := Lib.hid q5
  have hk0 : ¬ k < 0 := by omega
  clear h hP hm hD hkd hp hs hr s0 s5 hd hx her hb q0 q5 hst hs'
  go_enter Tryz.func137, Tryz.ntmps137
  go_wp2_with (first
    | (go_at_call 85; refine hr2.out.mono ?_; rintro e w1 ⟨rfl, hb1⟩; have e0 : w1.cell? ⟨d, 0, none⟩ = some (.int .i64 3) := (hb1.cell hlt).trans g0.out; have e5 : w1.cell? ⟨d, 5, none⟩ = some (.pointer (some ⟨x, 0, none⟩)) := (hb1.cell hlt).trans g5.out; have hb1H := Lib.hid hb1; clear hb1)
    | (go_at_call 191; refine (hpr.out w1 hb1H.out).mono ?_; rintro e w2 ⟨rfl, hk2⟩; have hk2H := Lib.hid hk2; clear hk2))
  go_ret2
  exact ⟨rfl, kp_from hb1H.out hk2H.out⟩
set_option maxRecDepth 100000 in
set_option maxHeartbeats 4000000 in
theorem write_pipe (h : KerIs w B q K M) {n : Nat} {P : Prc} (hP : ask K.procs n = some P) (fd : Int) {m : Nat} {D : Dsc} (hm : writN K P fd = some m) (hD : ask K.descs m = some D) (hkd : D.kind = 4) (hp : D.pipe = some D.n) {s : Pp.St} (hs : ask K.pipes D.n = some s) (t : ByteArray) (ht : t.size ≤ maxLen) (hok : s.writeErr t.data.toList ≠ 32) :
    Calls Tryz.prog 138 #[.pointer (some ⟨q, 0, none⟩), .pointer (some ⟨M.br n, 0, none⟩), .int .i64 fd, .string t] w fun e w' => e = .returned (.tuple #[.int .i64 (s.wrote t.data.toList), .int .i64 (s.writeErr t.data.toList)]) ∧ KP (AllX B) w K M w' q (setX K D.n (s.written t.data.toList)) := by
  have hr := writable_any h hP fd
  rw [hm] at hr
  obtain ⟨s0, _, _, s5, hlt⟩ := dsc_see h hD
  rw [hkd] at s0
  rw [hp] at s5
  have hpr := Lib.hid (fun (W : World) (hW : Below w.heap.size w W) => xWrite_any (h.below hW) hs t ht)
  obtain ⟨d, hd⟩ : ∃ d, M.bd m = d := ⟨_, rfl⟩
  obtain ⟨x, hx⟩ : ∃ x, M.bx D.n = x := ⟨_, rfl⟩
  have hr2 : Hid (Calls Tryz.prog 87 #[.pointer (some ⟨q, 0, none⟩), .pointer (some ⟨M.br n, 0, none⟩), .int .i64 fd] w fun e w' => e = .returned (.pointer (some ⟨d, 0, none⟩)) ∧ Below w.heap.size w w') := Lib.hid (by rw [← hd]; exact hr)
  have q5 : w.cell? ⟨d, 5, none⟩ = some (.pointer (some ⟨x, 0, none⟩)) := by rw [← hd, ← hx]; exact s5
  have q0 : w.cell? ⟨d, 0, none⟩ = some (.int .i64 4) := by rw [← hd]; exact s0
  rw [hx] at hpr
  rw [hd] at hlt
  obtain ⟨er, her⟩ : ∃ er, s.writeErr t.data.toList = er := ⟨_, rfl⟩
  obtain ⟨b, hb⟩ : ∃ b, M.br n = b := ⟨_, rfl⟩
  rw [her] at hpr hok ⊢
  rw [hb] at hr2 ⊢
  have d32 : (er == 32) = false := beq_eq_false_iff_ne.2 hok
  have g0 := Lib.hid q0
  have g5 := Lib.hid q5
  clear h hP hm hD hkd hp hs hr s0 s5 hd hx her hb q0 q5 hok
  go_enter Tryz.func138, Tryz.ntmps138
  go_wp2_with (first
    | (go_at_call 87; refine hr2.out.mono ?_; rintro e w1 ⟨rfl, hb1⟩; have e0 : w1.cell? ⟨d, 0, none⟩ = some (.int .i64 4) := (hb1.cell hlt).trans g0.out; have e5 : w1.cell? ⟨d, 5, none⟩ = some (.pointer (some ⟨x, 0, none⟩)) := (hb1.cell hlt).trans g5.out; have hb1H := Lib.hid hb1; clear hb1)
    | (go_at_call 193; refine (hpr.out w1 hb1H.out).mono ?_; rintro e w2 ⟨rfl, hk2⟩; have hk2H := Lib.hid hk2; clear hk2))
  go_ret2
  exact ⟨rfl, kp_from hb1H.out hk2H.out⟩
end
end Go.Proofs.YtmilagppbepnbaaGreat.Kn
/- The kernel: mark; what was typed, the input's end. Condition: it lies as stated. -/
namespace Go.Proofs.YtmilagppbepnbaaGreat.Kn
open Go.RowKit Go.PlainAid
set_option linter.unusedVariables false
set_option linter.unusedSimpArgs false
attribute [local go_sem] Oper.semAt_some
section
variable {w w' : World} {B : Ix → Nat → Prop} {q : Nat} {K : Ker} {M : Mp} {c : Nat}
theorem mark_k (h : KerIs w B q K M) {n : Nat} {P : Prc} (hP : ask K.procs n = some P) (fd : Int) (b : Bool) : Calls Tryz.prog 145 #[.pointer (some ⟨M.bt n, 0, none⟩), .int .i64 fd, .bool b] w fun e w' => e = .returned (.int .i64 (tmarkM P.tab fd b).1) ∧ KP (AllX B) w K M w' q (setR K n { P with tab := (tmarkM P.tab fd b).2 }) := by
  obtain ⟨hB, hT, hS1, hS2, hne⟩ : PrcAt w (B (.proc n)) (M.br n) (M.bt n) P := h.part (.proc n) P hP
  exact (tabMark_any hT fd b).mono fun e w1 ⟨he, hT1, hF1⟩ => ⟨he, B, M, turn_T h hP hT1 hF1, MExt.refl _ _, Nat.le_refl _, Nat.le_refl _, Nat.le_refl _, fun g hg => .inl hg, frmT h hP hF1⟩
end
end Go.Proofs.YtmilagppbepnbaaGreat.Kn
/- The kernel's read: of no descriptor, of less than nothing, of the console, of a text. Condition: the kernel lies as stated. -/
namespace Go.Proofs.YtmilagppbepnbaaGreat.Kn
open Go.RowKit Go.PlainAid
set_option linter.unusedVariables false
set_option linter.unusedSimpArgs false
attribute [local go_sem] Oper.semAt_some
section
variable {w w' : World} {B : Ix → Nat → Prop} {q : Nat} {K K' : Ker} {M : Mp} {c : Nat}
/-- How much a read takes. -/
def takeN (k : Int) (n : Nat) : Nat := min k.toNat n
/-- Where a read of a text ends. -/
def textEnd (D : Dsc) (k : Int) : Nat := min (D.at_ + takeN k D.text.size) D.text.size
end
end Go.Proofs.YtmilagppbepnbaaGreat.Kn
/- The kernel's calls, all of them, as one plain function. No condition. -/
namespace Go.Proofs.YtmilagppbepnbaaGreat.Kn
open Go.RowKit Go.PlainAid
set_option linter.unusedVariables false
set_option linter.unusedSimpArgs false
/-- What is asked. -/
structure Cal where
  no : Int
  a : Int
  b : Int
  s : ByteArray
  t : ByteArray
/-- What is answered, and the kernel behind. -/
structure Ans where
  n1 : Int
  n2 : Int
  st : ByteArray
  er : Int
  ker : Ker
def eT : ByteArray := ⟨#[]⟩
def readKM (K : Ker) (P : Prc) (fd k : Int) : Ans := match readN K P fd with
  | none => ⟨0, 0, eT, 9, K⟩
  | some m => if k < 0 then ⟨0, 0, eT, 22, K⟩ else match ask K.descs m with
    | none => ⟨0, 0, eT, 9, K⟩
    | some D =>
      if D.kind = 1 then ⟨0, 0, K.typed.extract 0 (takeN k K.typed.size), 0, { K with typed := K.typed.extract (takeN k K.typed.size) K.typed.size }⟩
      else if D.kind = 2 then ⟨0, 0, (ReadM K.fs D.n D.at_ k).1, (ReadM K.fs D.n D.at_ k).2, setD K m { D with at_ := D.at_ + (ReadM K.fs D.n D.at_ k).1.size }⟩
      else if D.kind = 5 then ⟨0, 0, D.text.extract D.at_ (textEnd D k), 0, setD K m { D with at_ := textEnd D k }⟩
      else match ask K.pipes D.n with
        | some z => ⟨0, 0, ⟨(if z.readErr k = 0 then z.got k else []).toArray⟩, z.readErr k, setX K D.n (if z.readErr k = 0 then z.read k else z)⟩
        | none => ⟨0, 0, eT, 9, K⟩
def writeKM (K : Ker) (n : Nat) (P : Prc) (fd : Int) (s : ByteArray) : Ans := match writN K P fd with
  | none => ⟨0, 0, eT, 9, K⟩
  | some m => match ask K.descs m with
    | none => ⟨0, 0, eT, 9, K⟩
    | some D =>
      if D.kind = 1 then (if D.n = 1 then ⟨s.size, 0, eT, 0, { K with out1 := K.out1 ++ s.data.toList }⟩ else ⟨s.size, 0, eT, 0, { K with out2 := K.out2 ++ s.data.toList }⟩)
      else if D.kind = 2 then ⟨(writeFileM K m D s).1, 0, eT, (writeFileM K m D s).2.1, (writeFileM K m D s).2.2⟩
      else match ask K.pipes D.n with
        | some z => if z.r = 0 then ⟨0, 0, eT, 32, if P.num = 1 then K else endM K n P 141⟩ else ⟨z.wrote s.data.toList, 0, eT, z.writeErr s.data.toList, setX K D.n (z.written s.data.toList)⟩
        | none => ⟨0, 0, eT, 9, K⟩
def pipeWaits (K : Ker) (D : Dsc) (t : Bool) : Bool := match D.pipe with
  | none => false
  | some x => match ask K.pipes x with
    | none => false
    | some z => z.waits t
def waitsM (K : Ker) (n : Nat) (P : Prc) (c : Cal) : Bool :=
  if c.no = 1 then (match readN K P c.a with
    | none => false
    | some m => match ask K.descs m with
      | none => false
      | some D => decide (0 < c.b) && (if D.kind = 1 then K.typed.toList.isEmpty && !K.closed else pipeWaits K D false))
  else if c.no = 2 then (match writN K P c.a with
    | none => false
    | some m => match ask K.descs m with
      | none => false
      | some D => !c.s.toList.isEmpty && pipeWaits K D true)
  else if c.no = 11 then decide ((childM K n P c.a).2 = 0) && (childM K n P c.a).1.isNone && decide (c.b = 0)
  else false
noncomputable def ansM (K : Ker) (n : Nat) (P : Prc) (c : Cal) : Ans :=
  if c.no = 1 then readKM K P c.a c.b
  else if c.no = 2 then writeKM K n P c.a c.s
  else if c.no = 3 then ⟨(openM K n P c.s c.a c.b).1, 0, eT, (openM K n P c.s c.a c.b).2.1, (openM K n P c.s c.a c.b).2.2⟩
  else if c.no = 4 then ⟨0, 0, eT, (tcutM P.tab c.a).2.1, closeM K n P c.a⟩
  else if c.no = 5 then ⟨(dupM K n P c.a c.b).1, 0, eT, (dupM K n P c.a c.b).2.1, (dupM K n P c.a c.b).2.2⟩
  else if c.no = 6 then ⟨(dup2M K n P c.a c.b).1, 0, eT, (dup2M K n P c.a c.b).2.1, (dup2M K n P c.a c.b).2.2⟩
  else if c.no = 7 then ⟨(npipeM K n P).1, (npipeM K n P).2.1, eT, (npipeM K n P).2.2.1, (npipeM K n P).2.2.2⟩
  else if c.no = 8 then ⟨(forkM K P).1, 0, eT, (forkM K P).2.1, (forkM K P).2.2⟩
  else if c.no = 9 then ⟨0, 0, eT, 0, execM K n P⟩
  else if c.no = 10 then (if P.num = 1 then ⟨0, 0, eT, 1, K⟩ else ⟨0, 0, eT, 0, endM K n P (bits .and .i64 c.a 255)⟩)
  else if c.no = 11 then ⟨(waitM K n P c.a).1, (waitM K n P c.a).2.1, eT, (waitM K n P c.a).2.2.1, (waitM K n P c.a).2.2.2⟩
  else if c.no = 12 then ⟨0, 0, eT, (chdirM K n P c.s).1, (chdirM K n P c.s).2⟩
  else if c.no = 13 then ⟨P.mask, 0, eT, 0, setR K n { P with mask := bits .and .i64 c.a 511 }⟩
  else if c.no = 14 then ⟨0, 0, eT, if (WalkM K.fs P.dir c.s).2 = 0 then (StatM K.fs (WalkM K.fs P.dir c.s).1).2 else (WalkM K.fs P.dir c.s).2, K⟩
  else if c.no = 15 then ⟨0, 0, eT, (listKM K P c.s).2, K⟩
  else if c.no = 16 then ⟨0, 0, eT, (UnlinkM K.fs P.dir c.s).1, setF K (UnlinkM K.fs P.dir c.s).2⟩
  else if c.no = 17 then ⟨0, 0, eT, (MkdirM K.fs P.dir c.s (bits .andNot .i64 c.a P.mask)).2.1, setF K (MkdirM K.fs P.dir c.s (bits .andNot .i64 c.a P.mask)).2.2⟩
  else if c.no = 18 then ⟨0, 0, eT, (RmdirM K.fs P.dir c.s).1, setF K (RmdirM K.fs P.dir c.s).2⟩
  else if c.no = 19 then ⟨0, 0, eT, (RenameM K.fs P.dir c.s c.t).1, setF K (RenameM K.fs P.dir c.s c.t).2⟩
  else if c.no = 20 then ⟨0, 0, eT, (LinkM K.fs P.dir c.s c.t).1, setF K (LinkM K.fs P.dir c.s c.t).2⟩
  else if c.no = 21 then ⟨0, 0, eT, (truncKM K P c.a c.b).1, (truncKM K P c.a c.b).2⟩
  else if c.no = 22 then (if (WalkM K.fs P.dir c.s).2 = 0 then ⟨0, 0, eT, (ChmodM K.fs (WalkM K.fs P.dir c.s).1 c.a).1, setF K (ChmodM K.fs (WalkM K.fs P.dir c.s).1 c.a).2⟩ else ⟨0, 0, eT, (WalkM K.fs P.dir c.s).2, K⟩)
  else if c.no = 23 then ⟨P.num, 0, eT, 0, K⟩
  else if c.no = 24 then ⟨0, 0, eT, (tmarkM P.tab c.a (c.b != 0)).1, setR K n { P with tab := (tmarkM P.tab c.a (c.b != 0)).2 }⟩
  else if c.no = 25 then ⟨0, 0, (PathM K.fs P.dir).1, (PathM K.fs P.dir).2, K⟩
  else if c.no = 26 then ⟨0, 0, eT, 0, K⟩
  else if c.no = 27 then ⟨0, 0, eT, 0, K⟩
  else if c.no = 28 then ⟨(textM K n P c.s).1, 0, eT, (textM K n P c.s).2.1, (textM K n P c.s).2.2⟩
  else ⟨0, 0, eT, 22, K⟩
end Go.Proofs.YtmilagppbepnbaaGreat.Kn
/- The kernel: New. No condition. -/
namespace Go.Proofs.YtmilagppbepnbaaGreat.Kn
open Go.RowKit Go.PlainAid
set_option linter.unusedVariables false
set_option linter.unusedSimpArgs false
attribute [local go_sem] Oper.semAt_some
def ker0 : Ker := ⟨newM, [], 0, [], 0, [], 0, ⟨#[]⟩, false, [], []⟩
def prc0 : Prc := ⟨1, 1, fun _ => Pp.Sl.none, 1, 18, false, 0⟩
def newKP : Nat → Ker × Prc
  | 0 => (setF (putR ker0 prc0) (HoldM newM 1).2, prc0)
  | k + 1 => (instM (newKP k).1 1 (newKP k).2 ⟨1, k, 0, 0, 0, none, ⟨#[]⟩⟩, { (newKP k).2 with tab := (tputM (newKP k).2.tab (((newKP k).1.lastD : Int) + 1) 0).2.2 })
theorem newKP_ask : ∀ k, ask (newKP k).1.procs 1 = some (newKP k).2
  | 0 => rfl
  | k + 1 => inst_ask (newKP_ask k) _
theorem newKP_last : ∀ k, (newKP k).1.lastD = k
  | 0 => rfl
  | k + 1 => by
    show (newKP k).1.lastD + 1 = k + 1
    rw [newKP_last k]
section
variable {w w1 w' : World} {B : Ix → Nat → Prop} {q : Nat} {K K' : Ker} {M : Mp} {c : Nat}
def mp0 (fp : Nat) : Mp := ⟨fun _ => 0, fun _ => 0, fun _ => 0, fun _ => 0, fp⟩
theorem nmb0 : Nmb ker0 := ⟨List.Pairwise.nil, List.Pairwise.nil, List.Pairwise.nil, (fun _ h => by cases h), (fun _ h => by cases h), (fun _ h => by cases h), (by decide), (by decide), (by decide)⟩
/-- The kernel's block has just been laid. -/
theorem new_ker {fp : Nat} (hF : FsP (fun _ => False) w w1 fp newM) :
    ∃ B, KerIs (w1.alloc (.cells #[.pointer (some ⟨fp, 0, none⟩), .slice none 0 0, .int .i64 0, .slice none 0 0, .int .i64 0, .slice none 0 0, .int .i64 0, .string ⟨#[]⟩, .bool false, .slice none 0 0, .slice none 0 0] 79)) B w1.heap.size ker0 (mp0 fp) ∧ (∀ g, AllX B g → w.heap.size ≤ g) ∧ Below w.heap.size w (w1.alloc (.cells #[.pointer (some ⟨fp, 0, none⟩), .slice none 0 0, .int .i64 0, .slice none 0 0, .int .i64 0, .slice none 0 0, .int .i64 0, .string ⟨#[]⟩, .bool false, .slice none 0 0, .slice none 0 0] 79)) := by
  obtain ⟨Bf, h1, h2, h3⟩ := hF
  obtain ⟨W, hW⟩ : ∃ W, w1.alloc (.cells #[.pointer (some ⟨fp, 0, none⟩), .slice none 0 0, .int .i64 0, .slice none 0 0, .int .i64 0, .slice none 0 0, .int .i64 0, .string ⟨#[]⟩, .bool false, .slice none 0 0, .slice none 0 0] 79) = W := ⟨_, rfl⟩
  have hb : Below w1.heap.size w1 W := by rw [← hW]; exact (Below.refl _ _).alloc (Nat.le_refl _) _
  have hK : Blk W w1.heap.size 79 #[.pointer (some ⟨fp, 0, none⟩), .slice none 0 0, .int .i64 0, .slice none 0 0, .int .i64 0, .slice none 0 0, .int .i64 0, .string ⟨#[]⟩, .bool false, .slice none 0 0, .slice none 0 0] := by rw [← hW]; exact Blk.new _ _ _
  rw [hW]
  have hs1 : w.heap.size ≤ w1.heap.size := h3.size
  have hfl : ∀ g, All Bf g → g < w1.heap.size := fun g ⟨i, hi⟩ => h1.lt i g hi
  have hfg : ∀ g, All Bf g → w.heap.size ≤ g := fun g hg => (h2 g hg).elim (fun h => h.elim) id
  refine ⟨fun i => match i with | .own => fun g => g = w1.heap.size | .fs => All Bf | _ => fun _ => False, ⟨fun i => ?_, fun i j g hi hj => ?_, fun i g hg => ?_, nmb0⟩, fun g ⟨i, hi⟩ => ?_, (h3.toBelow (fun _ h => h.elim) (Nat.le_refl _)).trans (hb.mono hs1)⟩
  · cases i with
    | own => exact ⟨_, _, _, _, _, hK, World.ownsRow_nil _ _ _ _, World.ownsRow_nil _ _ _ _, World.ownsRow_nil _ _ _ _, World.ownsRow_nil _ _ _ _, World.ownsRow_nil _ _ _ _, rfl, (fun _ h => by cases h), (fun _ h => by cases h), (fun _ h => by cases h), (fun _ h => by cases h), (fun _ h => by cases h), (fun _ h => by cases h)⟩
    | fs => exact ⟨Bf, h1.below hb, fun g hg => hg⟩
    | pipe n => intro s hk; cases hk
    | desc n => intro s hk; cases hk
    | proc n => intro s hk; cases hk
  · cases i <;> cases j <;> first | rfl | exact hi.elim | exact hj.elim | skip
    · have := hfl g hj; have : g = w1.heap.size := hi; omega
    · have := hfl g hi; have : g = w1.heap.size := hj; omega
  · have hK2 := hK.lt
    cases i with
    | own => have : g = w1.heap.size := hg; omega
    | fs => have := hfl g hg; have := hb.size; omega
    | pipe n => exact hg.elim
    | desc n => exact hg.elim
    | proc n => exact hg.elim
  · cases i with
    | own => have : g = w1.heap.size := hi; omega
    | fs => exact hfg g hi
    | pipe n => exact hi.elim
    | desc n => exact hi.elim
    | proc n => exact hi.elim
set_option maxRecDepth 100000 in
set_option maxHeartbeats 8000000 in
theorem new_k (w : World) : Calls Tryz.prog 11 #[] w fun e w' => ∃ q, e = .returned (.pointer (some ⟨q, 0, none⟩)) ∧ ∃ B M, KerIs w' B q (newKP 3).1 M ∧ (∀ g, AllX B g → w.heap.size ≤ g) ∧ Below w.heap.size w w' := by
  go_enter Tryz.func11, Tryz.ntmps11
  go_upto_region 2 with (go_at_call 27; refine (new_any w).mono ?_; rintro e w1 ⟨rfl, hF1⟩; have hF1H := Lib.hid hF1; clear hF1)
  obtain ⟨B2, hk2, hg2, hb2⟩ := new_ker hF1H.out
  obtain ⟨q, hq⟩ : ∃ q, w1.heap.size = q := ⟨_, rfl⟩
  obtain ⟨W2, hW2⟩ : ∃ W, w1.alloc (.cells #[.pointer (some ⟨w.heap.size, 0, none⟩), .slice none 0 0, .int .i64 0, .slice none 0 0, .int .i64 0, .slice none 0 0, .int .i64 0, .string ⟨#[]⟩, .bool false, .slice none 0 0, .slice none 0 0] 79) = W := ⟨_, rfl⟩
  rw [hW2] at hk2 hb2 ⊢
  rw [hq] at hk2 ⊢
  have hk2H := Lib.hid hk2
  have hg2H := Lib.hid hg2
  have hb2H := Lib.hid hb2
  clear hk2 hg2 hb2 hW2 hq hF1H
  go_upto_region 3 with (go_at_call 28; refine (Pp.tnew_any W2).mono ?_; rintro e w3 ⟨rfl, hT3, hb3⟩; have hT3H := Lib.hid hT3; have hb3H := Lib.hid hb3; clear hT3 hb3)
  obtain ⟨W4, hW4⟩ : ∃ W, w3.alloc (.cells #[.int .i64 1, .int .i64 1, .pointer (some ⟨W2.heap.size, 0, none⟩), .int .i64 1, .int .i64 18, .bool false, .int .i64 0] 84) = W := ⟨_, rfl⟩
  obtain ⟨tb, htb⟩ : ∃ tb, W2.heap.size = tb := ⟨_, rfl⟩
  obtain ⟨b, hbb⟩ : ∃ b, w3.heap.size = b := ⟨_, rfl⟩
  have hput : Hid (Calls Tryz.prog 29 #[.pointer (some ⟨q, 5, none⟩), .pointer (some ⟨b, 0, none⟩)] W4 fun e w' => e = .returned (.int .i64 1) ∧ ∃ B', KerIs w' B' q (putR ker0 prc0) (mpR (mp0 w.heap.size) ker0 b tb) ∧ (∀ g, AllX B' g → w.heap.size ≤ g) ∧ Below w.heap.size w w') := Lib.hid (by
    have hb4 : Below w3.heap.size w3 W4 := by rw [← hW4]; exact (Below.refl _ _).alloc (Nat.le_refl _) _
    have hP4 : Blk W4 b 84 #[.int .i64 1, .int .i64 1, .pointer (some ⟨tb, 0, none⟩), .int .i64 1, .int .i64 18, .bool false, .int .i64 0] := by rw [← hW4, ← hbb, ← htb]; exact Blk.new _ _ _
    have hT3 := hT3H.out
    have hb3 := hb3H.out
    rw [htb] at hT3
    have htl := hT3.lt
    have hT4 : Pp.TabAt W4 tb (fun _ => Pp.Sl.none) := hT3.keep (hb4.block _ htl)
    have hs3 := hb3.size
    have hs4 := hb4.size
    have hx : PrcAt W4 (fun g => g = b ∨ g = tb) b tb prc0 := ⟨hP4, hT4, .inl rfl, .inr rfl, by omega⟩
    have hb24 : Below W2.heap.size W2 W4 := hb3.trans (hb4.mono hs3)
    have hk4 := hk2H.out.below hb24
    have hbl := hP4.lt
    have hp := putR_any hk4 (S := fun g => g = b ∨ g = tb) hx (fun j g hj hg => by have := hk2H.out.lt j g hj; omega) (fun g hg => by rcases hg with e | e <;> omega) (by decide)
    refine hp.mono fun e w' ⟨he, B', h1, h2, h3, _⟩ => ⟨he, B', h1, fun g hg => ?_, ?_⟩
    · have hs2 := hb2H.out.size
      rcases h2 g hg with (h5 | h5) | h5
      · exact hg2H.out g h5
      · rcases h5 with e | e <;> omega
      · omega
    · have hs2 := hb2H.out.size
      exact ((hb2H.out.trans (hb24.mono hs2))).trans (h3.toBelow (fun g hg => hg2H.out g ⟨_, hg⟩) (by omega)))
  rw [hW4, htb, hbb]
  clear hW4 hbb htb hT3H hb3H hk2H hg2H hb2H
  go_upto_region 4 with (go_at_call 29; refine hput.out.mono ?_; rintro e w5 ⟨rfl, B5, hk5, hg5, hb5⟩; have hk5H := Lib.hid hk5; have hg5H := Lib.hid hg5; have hb5H := Lib.hid hb5; clear hk5 hg5 hb5)
  obtain ⟨xv, dv, rv, o1, o2, ho⟩ := hk5H.out.own
  obtain ⟨hPB, _⟩ : PrcAt w5 (B5 (.proc 1)) b tb prc0 := hk5H.out.part (.proc 1) prc0 rfl
  obtain ⟨fp, hfp⟩ : ∃ fp, w.heap.size = fp := ⟨_, rfl⟩
  have c0 : w5.cell? ⟨q, 0, none⟩ = some (.pointer (some ⟨fp, 0, none⟩)) := by rw [← hfp]; exact ho.blk.cell 0
  have c3 : w5.cell? ⟨b, 3, none⟩ = some (.int .i64 1) := hPB.cell 3
  have d0 : w5.drew.cell? ⟨q, 0, none⟩ = some (.pointer (some ⟨fp, 0, none⟩)) := c0
  have d3 : w5.drew.cell? ⟨b, 3, none⟩ = some (.int .i64 1) := c3
  have hk5d : KerIs w5.drew B5 q (putR ker0 prc0) (mpR (mp0 w.heap.size) ker0 b tb) := hk5H.out.keep (Nat.le_refl _) (fun _ _ _ => rfl)
  have hho : Hid (Calls Tryz.prog 30 #[.pointer (some ⟨fp, 0, none⟩), .int .i64 1] w5.drew fun e w' => e = .returned (.int .i64 (HoldM newM 1).1) ∧ KP (AllX B5) w5.drew (putR ker0 prc0) (mpR (mp0 w.heap.size) ker0 b tb) w' q (newKP 0).1) := Lib.hid (by
    have := fHold_any hk5d (c := 0) new_wf (by omega) 1
    rw [← hfp]
    exact this)
  have hsee : Hid (∀ W, KP (AllX B5) w5.drew (putR ker0 prc0) (mpR (mp0 w.heap.size) ker0 b tb) W q (newKP 0).1 → W.cell? ⟨q, 0, none⟩ = some (.pointer (some ⟨fp, 0, none⟩)) ∧ W.cell? ⟨b, 3, none⟩ = some (.int .i64 1)) := Lib.hid (fun W hW => by
    obtain ⟨e1, e2⟩ := kp_see hW (n := 1) (Nat.le_refl _) (newKP_ask 0)
    rw [← hfp]
    exact ⟨e1, e2.cell 3⟩)
  clear ho hPB hk5d hput
  go_region_held3 (fun Z => Z.cell? ⟨q, 0, none⟩ = some (.pointer (some ⟨fp, 0, none⟩)) ∧ Z.cell? ⟨b, 3, none⟩ = some (.int .i64 1)) (first | exact ⟨c0, c3⟩ | exact ⟨d0, d3⟩ | exact hsee.out _ hk6H.out | go_keep | fail)
    ((first | (go_at_call 30; refine hho.out.mono ?_; rintro e w6 ⟨rfl, hk6⟩; have hk6H := Lib.hid hk6; clear hk6) | fail))
  all_goals
    clear c0 c3 d0 d3 hho hsee
    go_wp2_with fail
    go_loopw [24] (fun s24 wr => ∃ k : Nat, k ≤ 3 ∧ s24 = .int .i64 k ∧ Hid (KP (AllX B5) w5.drew (putR ker0 prc0) (mpR (mp0 w.heap.size) ker0 b tb) wr q (newKP k).1)) (fun s24 _ => 3 - (intOf s24).toNat)
    case atStart => exact ⟨0, by omega, rfl, hk6H⟩
    case round =>
      obtain ⟨k, hk, rfl, hkp⟩ := hrel
      by_cases hk3 : k < 3
      · have hin : Hid (Calls Tryz.prog 31 #[.pointer (some ⟨q, 0, none⟩), .pointer (some ⟨b, 0, none⟩), .pointer (some ⟨wr.heap.size, 0, none⟩)] (wr.alloc (.cells #[.int .i64 1, .int .i64 k, .int .i64 0, .int .i64 0, .int .i64 0, .pointer none, .string ⟨#[]⟩] 91)) fun e w' => (∃ v, e = .returned (.int .i64 v)) ∧ KP (AllX B5) w5.drew (putR ker0 prc0) (mpR (mp0 w.heap.size) ker0 b tb) w' q (newKP (k + 1)).1) := Lib.hid (by
          obtain ⟨B6, M6, k1, k2, k3, k4, k5, k6, k7⟩ := hkp.out
          have hM : M6.br 1 = b := (k2.br 1 (Nat.le_refl _)).trans rfl
          have := inst_new k1 (newKP_ask k) ⟨1, k, 0, 0, 0, none, ⟨#[]⟩⟩ (by rw [newKP_last]; omega) (.pointer none) rfl wr (Below.refl _ _)
          rw [hM] at this
          exact this.mono fun e w' ⟨he, hp⟩ => ⟨⟨_, he⟩, KP.trans k6 k7 k2 k3 k4 k5 hp⟩)
        have hk3' : (k : Int) < 3 := by omega
        go_wp2_with (go_at_call 31; refine hin.out.mono ?_; rintro e w7 ⟨⟨v, rfl⟩, hk7⟩; have hk7H := Lib.hid hk7; clear hk7)
        go_roundw
        case rel => exact ⟨k + 1, by omega, by go_num, hk7H⟩
        case measure => simp [intOf]; omega
      · obtain rfl : k = 3 := by omega
        go_wp2_with fail
        go_ret
        obtain ⟨B6, M6, k1, k2, k3, k4, k5, k6, k7⟩ := hkp.out
        have hs5 := hb5H.out.size
        have hsd : w5.drew.heap.size = w5.heap.size := rfl
        refine ⟨q, rfl, B6, M6, k1, fun g hg => ?_, ?_⟩
        · rcases k6 g hg with h5 | h5
          · exact hg5H.out g h5
          · omega
        · exact (hb5H.out.drew).trans (k7.toBelow (fun g hg => hg5H.out g hg) (by omega))
end
end Go.Proofs.YtmilagppbepnbaaGreat.Kn
/- The kernel: what waits. Condition: the kernel lies as stated. -/
namespace Go.Proofs.YtmilagppbepnbaaGreat.Kn
open Go.RowKit Go.PlainAid
set_option linter.unusedVariables false
set_option linter.unusedSimpArgs false
attribute [local go_sem] Oper.semAt_some
/-- What is asked, as cells. -/
abbrev callC (no a b : Int) (s t : ByteArray) (pa : Option Addr) (pn pc : Nat) : Array Value := #[.int .i64 no, .int .i64 a, .int .i64 b, .string s, .string t, .slice pa pn pc]
section
variable {w w' : World} {B : Ix → Nat → Prop} {q : Nat} {K K' : Ker} {M : Mp} {c : Nat}
set_option maxRecDepth 100000 in
set_option maxHeartbeats 4000000 in
theorem waits_other {k p : Value} (no a b : Int) (s t : ByteArray) (pa : Option Addr) (pn pc : Nat) (h1 : (no == 1) = false) (h2 : (no == 2) = false) (h3 : (no == 11) = false) (w : World) :
    Calls Tryz.prog 47 #[k, p, .agg (callC no a b s t pa pn pc)] w fun e w' => e = .returned (.bool false) ∧ Below w.heap.size w w' := by
  unfold callC
  go_enter Tryz.func47, Tryz.ntmps47
  go_wp2
  go_ret
  exact ⟨rfl, (Below.refl _ _).alloc (Nat.le_refl _) _⟩
set_option maxRecDepth 100000 in
set_option maxHeartbeats 4000000 in
/-- A read that may wait: what the description's pipe says; of another than the console. -/
theorem waits_read (h : KerIs w B q K M) {n : Nat} {P : Prc} (hP : ask K.procs n = some P) (fd : Int) {m : Nat} {D : Dsc} (hm : readN K P fd = some m) (hD : ask K.descs m = some D) (hkd : D.kind ≠ 1) (k : Int) (k0 : 0 < k) (s t : ByteArray) (pa : Option Addr) (pn pc : Nat) (v : Bool)
    (hw : ∀ W, Below w.heap.size w W → Calls Tryz.prog 86 #[ptrV (D.pipe.map M.bx), .bool false] W fun e w' => e = .returned (.bool v) ∧ Below W.heap.size W w') :
    Calls Tryz.prog 47 #[.pointer (some ⟨q, 0, none⟩), .pointer (some ⟨M.br n, 0, none⟩), .agg (callC 1 fd k s t pa pn pc)] w fun e w' => e = .returned (.bool v) ∧ Below w.heap.size w w' := by
  unfold callC
  have hr : Hid (∀ W, Below w.heap.size w W → Calls Tryz.prog 85 #[.pointer (some ⟨q, 0, none⟩), .pointer (some ⟨M.br n, 0, none⟩), .int .i64 fd] W fun e w' => e = .returned (.pointer (some ⟨M.bd m, 0, none⟩)) ∧ Below W.heap.size W w') := Lib.hid (fun W hW => by
    have := readable_any (h.below hW) hP fd
    rw [hm] at this
    exact this)
  obtain ⟨s0, _, _, s5, hlt⟩ := dsc_see h hD
  obtain ⟨d, hd⟩ : ∃ d, M.bd m = d := ⟨_, rfl⟩
  obtain ⟨x, hx⟩ : ∃ x, ptrV (D.pipe.map M.bx) = x := ⟨_, rfl⟩
  obtain ⟨b, hb⟩ : ∃ b, M.br n = b := ⟨_, rfl⟩
  obtain ⟨kd, hkde⟩ : ∃ kd, D.kind = kd := ⟨_, rfl⟩
  have hwH := Lib.hid hw
  rw [hx] at hwH s5
  rw [hd] at hr s0 s5 hlt
  rw [hb] at hr ⊢
  rw [hkde] at s0 hkd
  have d1 : ((kd : Int) == 1) = false := by rw [beq_eq_false_iff_ne]; omega
  have g0 := Lib.hid s0
  have g5 := Lib.hid s5
  clear h hP hm hD hd hx hb hw s0 s5 hkde hkd
  go_enter Tryz.func47, Tryz.ntmps47
  go_upto_region 3 with fail
  obtain ⟨W0, hW0⟩ : ∃ W, w.alloc (.cells #[.int .i64 1, .int .i64 fd, .int .i64 k, .string s, .string t, .slice pa pn pc] 34) = W := ⟨_, rfl⟩
  have hb0 : Below w.heap.size w W0 := by rw [← hW0]; exact (Below.refl _ _).alloc (Nat.le_refl _) _
  have hC0 : Blk W0 w.heap.size 34 #[.int .i64 1, .int .i64 fd, .int .i64 k, .string s, .string t, .slice pa pn pc] := by rw [← hW0]; exact Blk.new _ _ _
  have a1 : W0.cell? ⟨w.heap.size, 1, none⟩ = some (.int .i64 fd) := hC0.cell 1
  have hb0H := Lib.hid hb0
  have hC0H := Lib.hid hC0
  rw [hW0]
  clear hb0 hC0 hW0
  go_wp2_with (first
    | (go_at_call 85; refine (hr.out W0 hb0H.out).mono ?_; rintro e w1 ⟨rfl, hb1⟩
       have hb01 : Below w.heap.size w w1 := hb0H.out.trans (hb1.mono hb0H.out.size)
       have e0 : w1.cell? ⟨d, 0, none⟩ = some (.int .i64 kd) := (hb01.cell hlt).trans g0.out
       have e5 : w1.cell? ⟨d, 5, none⟩ = some x := (hb01.cell hlt).trans g5.out
       have hC1 : Blk w1 w.heap.size 34 #[.int .i64 1, .int .i64 fd, .int .i64 k, .string s, .string t, .slice pa pn pc] := hC0H.out.keep (hb1.block _ hC0H.out.lt)
       have e2 : w1.cell? ⟨w.heap.size, 2, none⟩ = some (.int .i64 k) := hC1.cell 2
       have hb1H := Lib.hid hb01; clear hb1 hb01 hC1)
    | (go_at_call 86; refine (hwH.out w1 hb1H.out).mono ?_; rintro e w2 ⟨rfl, hb2⟩))
  go_ret
  exact ⟨rfl, hb1H.out.trans (hb2.mono hb1H.out.size)⟩
set_option maxRecDepth 100000 in
set_option maxHeartbeats 4000000 in
/-- A write that may wait. -/
theorem waits_write (h : KerIs w B q K M) {n : Nat} {P : Prc} (hP : ask K.procs n = some P) (fd : Int) {m : Nat} {D : Dsc} (hm : writN K P fd = some m) (hD : ask K.descs m = some D) (k : Int) (s t : ByteArray) (hs : s.toList.isEmpty = false) (pa : Option Addr) (pn pc : Nat) (v : Bool)
    (hw : ∀ W, Below w.heap.size w W → Calls Tryz.prog 86 #[ptrV (D.pipe.map M.bx), .bool true] W fun e w' => e = .returned (.bool v) ∧ Below W.heap.size W w') :
    Calls Tryz.prog 47 #[.pointer (some ⟨q, 0, none⟩), .pointer (some ⟨M.br n, 0, none⟩), .agg (callC 2 fd k s t pa pn pc)] w fun e w' => e = .returned (.bool v) ∧ Below w.heap.size w w' := by
  unfold callC
  have hr : Hid (∀ W, Below w.heap.size w W → Calls Tryz.prog 87 #[.pointer (some ⟨q, 0, none⟩), .pointer (some ⟨M.br n, 0, none⟩), .int .i64 fd] W fun e w' => e = .returned (.pointer (some ⟨M.bd m, 0, none⟩)) ∧ Below W.heap.size W w') := Lib.hid (fun W hW => by
    have := writable_any (h.below hW) hP fd
    rw [hm] at this
    exact this)
  obtain ⟨s0, _, _, s5, hlt⟩ := dsc_see h hD
  obtain ⟨d, hd⟩ : ∃ d, M.bd m = d := ⟨_, rfl⟩
  obtain ⟨x, hx⟩ : ∃ x, ptrV (D.pipe.map M.bx) = x := ⟨_, rfl⟩
  obtain ⟨b, hb⟩ : ∃ b, M.br n = b := ⟨_, rfl⟩
  have hwH := Lib.hid hw
  rw [hx] at hwH s5
  rw [hd] at hr s5 hlt
  rw [hb] at hr ⊢
  have g5 := Lib.hid s5
  clear h hP hm hD hd hx hb hw s0 s5
  go_enter Tryz.func47, Tryz.ntmps47
  go_upto_region 6 with fail
  obtain ⟨W0, hW0⟩ : ∃ W, w.alloc (.cells #[.int .i64 2, .int .i64 fd, .int .i64 k, .string s, .string t, .slice pa pn pc] 34) = W := ⟨_, rfl⟩
  have hb0 : Below w.heap.size w W0 := by rw [← hW0]; exact (Below.refl _ _).alloc (Nat.le_refl _) _
  have hC0 : Blk W0 w.heap.size 34 #[.int .i64 2, .int .i64 fd, .int .i64 k, .string s, .string t, .slice pa pn pc] := by rw [← hW0]; exact Blk.new _ _ _
  have a1 : W0.cell? ⟨w.heap.size, 1, none⟩ = some (.int .i64 fd) := hC0.cell 1
  have hb0H := Lib.hid hb0
  have hC0H := Lib.hid hC0
  rw [hW0]
  clear hb0 hC0 hW0
  go_wp2_with (first
    | (go_at_call 87; refine (hr.out W0 hb0H.out).mono ?_; rintro e w1 ⟨rfl, hb1⟩
       have hb01 : Below w.heap.size w w1 := hb0H.out.trans (hb1.mono hb0H.out.size)
       have e5 : w1.cell? ⟨d, 5, none⟩ = some x := (hb01.cell hlt).trans g5.out
       have hC1 : Blk w1 w.heap.size 34 #[.int .i64 2, .int .i64 fd, .int .i64 k, .string s, .string t, .slice pa pn pc] := hC0H.out.keep (hb1.block _ hC0H.out.lt)
       have e3 : w1.cell? ⟨w.heap.size, 3, none⟩ = some (.string s) := hC1.cell 3
       have hb1H := Lib.hid hb01; clear hb1 hb01 hC1)
    | (go_at_call 86; refine (hwH.out w1 hb1H.out).mono ?_; rintro e w2 ⟨rfl, hb2⟩))
  go_ret
  exact ⟨rfl, hb1H.out.trans (hb2.mono hb1H.out.size)⟩
end
end Go.Proofs.YtmilagppbepnbaaGreat.Kn
