/- The kernel: chdir. Condition: it lies as stated. -/
import Derived.Test.YtmilagppbepnbaaGreatKgO
namespace Go.Proofs.YtmilagppbepnbaaGreat.Kn
open Go.RowKit Go.PlainAid
set_option linter.unusedVariables false
set_option linter.unusedSimpArgs false
attribute [local go_sem] Oper.semAt_some
section
variable {w w' : World} {B : Ix → Nat → Prop} {q : Nat} {K K1 : Ker} {M : Mp} {c : Nat}
/-- What is seen behind a step. -/
theorem kp_see (hk : KP (AllX B) w K M w' q K1) {n : Nat} (hn : n ≤ K.lastR) {P1 : Prc} (hP : ask K1.procs n = some P1) : w'.cell? ⟨q, 0, none⟩ = some (.pointer (some ⟨M.fp, 0, none⟩)) ∧ Blk w' (M.br n) 84 (pcells P1 (M.bt n)).toArray := by
  obtain ⟨B', M', k1, k2, k3, k4, k5, k6, k7⟩ := hk
  obtain ⟨xv, dv, rv, o1, o2, ho⟩ : OwnIs w' (B' .own) q K1 M' := k1.part .own
  obtain ⟨hB, _⟩ : PrcAt w' (B' (.proc n)) (M'.br n) (M'.bt n) P1 := k1.part (.proc n) P1 hP
  rw [k2.br n hn, k2.bt n hn] at hB
  refine ⟨?_, hB⟩
  rw [← k2.fp]
  exact ho.blk.cell 0
/-- A process's cell turns behind a step. -/
theorem kp_pc (hk : KP (AllX B) w K M w' q K1) {n : Nat} (hn : n ≤ K.lastR) {P P' : Prc} (hP : ask K1.procs n = some P) (i : Nat) (v : Value) (hc : ∀ tb, (pcells P tb).toArray.setIfInBounds i v = (pcells P' tb).toArray) (ht : P'.tab = P.tab) : KP (AllX B) w K M (w'.setCell ⟨M.br n, i, none⟩ v) q (setR K1 n P') := by
  obtain ⟨B', M', k1, k2, k3, k4, k5, k6, k7⟩ := hk
  have := step_pc k1 hP i v hc ht
  rw [k2.br n hn] at this
  exact KP.trans k6 k7 k2 k3 k4 k5 this
theorem kp_below (hk : KP (AllX B) w K M w' q K1) {w2 : World} (hb : Below w'.heap.size w' w2) : KP (AllX B) w K M w2 q K1 := by
  obtain ⟨B', M', k1, k2, k3, k4, k5, k6, k7⟩ := hk
  exact ⟨B', M', k1.below hb, k2, k3, k4, k5, k6, k7.below hb⟩
theorem stat_some {f : Fs} {n : Int} (h : (StatM f n).2 = 0) : ∃ i : Nat, n = i := by
  unfold StatM at h
  cases hn : node f n with
  | none => rw [hn] at h; cases h
  | some I => obtain ⟨i, h1, _, h3⟩ := node_some hn; exact ⟨n.toNat, by omega⟩
set_option maxRecDepth 100000 in
set_option maxHeartbeats 8000000 in
theorem chdir_any (h : KerIs w B q K M) (hw : WF c K.fs) (hc : c ≤ 5000) {n : Nat} {P : Prc} (hP : ask K.procs n = some P) (s : ByteArray) (hs : s.size ≤ maxLen) (hw2 : WF c (HoldM K.fs (WalkM K.fs P.dir s).1).2) :
    Calls Tryz.prog 163 #[.pointer (some ⟨q, 0, none⟩), .pointer (some ⟨M.br n, 0, none⟩), .string s] w fun e w' => e = .returned (.int .i64 (chdirM K n P s).1) ∧ KP (AllX B) w K M w' q (chdirM K n P s).2 := by
  obtain ⟨hB, hT, hS1, hS2, hne⟩ : PrcAt w (B (.proc n)) (M.br n) (M.bt n) P := h.part (.proc n) P hP
  obtain ⟨xv, dv, rv, o1, o2, ho⟩ : OwnIs w (B .own) q K M := h.part .own
  have hnr := (h.num.lr _ (ask_mem hP)).2
  obtain ⟨b, hb⟩ : ∃ b, M.br n = b := ⟨_, rfl⟩
  obtain ⟨fp, hfp⟩ : ∃ fp, M.fp = fp := ⟨_, rfl⟩
  have kf : w.cell? ⟨q, 0, none⟩ = some (.pointer (some ⟨M.fp, 0, none⟩)) := ho.blk.cell 0
  rw [hb] at hB ⊢
  have k3 : w.cell? ⟨b, 3, none⟩ = some (.int .i64 P.dir) := hB.cell 3
  have hql := ho.blk.lt
  have hbl := hB.lt
  have hH := Lib.hid h
  have hPH := Lib.hid hP
  have hcH := Lib.hid hc
  have hw2H := Lib.hid hw2
  have hwk := Lib.hid (fun (W : World) (hW : Below w.heap.size w W) => fWalk_any (h.below hW) hw hc P.dir s hs)
  obtain ⟨i, hi⟩ : ∃ i, WalkM K.fs P.dir s = i := ⟨_, rfl⟩
  unfold chdirM
  rw [hi] at hwk hw2H ⊢
  obtain ⟨ino, err⟩ := i
  have hst := Lib.hid (fun (W : World) (hW : Below w.heap.size w W) => fStat_any (h.below hW) hw hc ino)
  have hmy := Lib.hid (fun (W : World) (hW : Below w.heap.size w W) => fMay_any (h.below hW) hw hc ino 1)
  have hhd := Lib.hid (fun (W : World) (hW : Below w.heap.size w W) => fHold_any (h.below hW) hw hc ino)
  have hbH := Lib.hid hb
  have hfpH := Lib.hid hfp
  rw [hfp] at kf hwk hst hmy hhd
  have kfd : w.drew.cell? ⟨q, 0, none⟩ = some (.pointer (some ⟨fp, 0, none⟩)) := kf
  have k3d : w.drew.cell? ⟨b, 3, none⟩ = some (.int .i64 P.dir) := k3
  dsimp only at hwk ⊢
  obtain ⟨a0, m0, l0, hse⟩ := stat_lit K.fs ino
  rw [hse] at hst
  have hss := Lib.hid (fun h0 => stat_some (f := K.fs) (n := ino) h0)
  obtain ⟨se, hsee⟩ : ∃ se, (StatM K.fs ino).2 = se := ⟨_, rfl⟩
  obtain ⟨kd, hkd⟩ : ∃ kd, kindM K.fs ino = kd := ⟨_, rfl⟩
  obtain ⟨my, hmye⟩ : ∃ my, MayM K.fs ino 1 = my := ⟨_, rfl⟩
  rw [hsee, hkd] at hst
  rw [hmye] at hmy
  rw [hsee] at hss
  rw [hsee, hkd, hmye]
  clear h hw hc hP hB hT hS1 hS2 hne ho hb hfp hi hse hsee hkd hmye hw2
  by_cases he : err = 0
  · subst he
    rw [if_neg (fun k => k rfl)]
    by_cases hse : se = 0
    · subst hse
      obtain ⟨i, rfl⟩ := hss.out rfl
      by_cases hkd : kd = 2
      · subst hkd
        rw [if_neg (by simp)]
        cases my with
        | false =>
          rw [if_pos rfl]
          clear hhd hss
          go_enter Tryz.func163, Tryz.ntmps163
          go_upto_region 1 with fail
          go_region_with (first | (go_at_call 147; refine (hwk.out w.drew (Below.refl _ _).drew).mono ?_; rintro e w1 ⟨rfl, hb1⟩; have hb1H : Hid (Below w.heap.size w w1) := Lib.hid ((Below.refl _ _).drew.trans hb1); clear hb1) | (go_at_call 147; refine (hwk.out w (Below.refl _ _)).mono ?_; rintro e w1 ⟨rfl, hb1⟩; have hb1H : Hid (Below w.heap.size w w1) := Lib.hid hb1; clear hb1))
          all_goals
            have g0 : w1.cell? ⟨q, 0, none⟩ = some (.pointer (some ⟨fp, 0, none⟩)) := (hb1H.out.cell hql).trans kf
            go_wp2_with (first
              | (go_at_call 148; refine (hst.out w1 hb1H.out).mono ?_; rintro e w2 ⟨rfl, hb2⟩; have hq2 := Nat.lt_of_lt_of_le hql (Nat.le_trans hb1H.out.size hb2.size); have hb2H : Hid (Below w.heap.size w w2) := Lib.hid (hb1H.out.trans (hb2.mono hb1H.out.size)); have g2 : w2.cell? ⟨q, 0, none⟩ = some (.pointer (some ⟨fp, 0, none⟩)) := (hb2H.out.cell hql).trans kf; clear hb2)
              | (go_at_call 205; refine (hmy.out _ (hb2H.out.alloc hb2H.out.size _)).mono ?_; rintro e w3 ⟨rfl, rfl⟩))
            go_ret
            exact ⟨rfl, KP.of hH.out (hb2H.out.alloc hb2H.out.size _)⟩
        | true =>
          rw [if_neg (by simp)]
          clear hss
          go_enter Tryz.func163, Tryz.ntmps163
          go_upto_region 1 with fail
          go_region_with (first | (go_at_call 147; refine (hwk.out w.drew (Below.refl _ _).drew).mono ?_; rintro e w1 ⟨rfl, hb1⟩; have hb1H : Hid (Below w.heap.size w w1) := Lib.hid ((Below.refl _ _).drew.trans hb1); clear hb1) | (go_at_call 147; refine (hwk.out w (Below.refl _ _)).mono ?_; rintro e w1 ⟨rfl, hb1⟩; have hb1H : Hid (Below w.heap.size w w1) := Lib.hid hb1; clear hb1))
          all_goals
            have g0 : w1.cell? ⟨q, 0, none⟩ = some (.pointer (some ⟨fp, 0, none⟩)) := (hb1H.out.cell hql).trans kf
            go_upto_region 10 with (first
              | (go_at_call 148; refine (hst.out w1 hb1H.out).mono ?_; rintro e w2 ⟨rfl, hb2⟩; have hq2 := Nat.lt_of_lt_of_le hql (Nat.le_trans hb1H.out.size hb2.size); have hb2H : Hid (Below w.heap.size w w2) := Lib.hid (hb1H.out.trans (hb2.mono hb1H.out.size)); have g2 : w2.cell? ⟨q, 0, none⟩ = some (.pointer (some ⟨fp, 0, none⟩)) := (hb2H.out.cell hql).trans kf; clear hb2)
              | (go_at_call 205; refine (hmy.out _ (hb2H.out.alloc hb2H.out.size _)).mono ?_; rintro e w3 ⟨rfl, rfl⟩)
              | (go_at_call 30; refine (hhd.out _ (hb2H.out.alloc hb2H.out.size _)).mono ?_; rintro e w4 ⟨rfl, hk4⟩; have hk4H := Lib.hid (KP.trans (K1 := K) (fun g hg => .inl hg) (Frm.of_below (hb2H.out.alloc hb2H.out.size _)) (MExt.refl _ _) (Nat.le_refl _) (Nat.le_refl _) (Nat.le_refl _) hk4); clear hk4))
            obtain ⟨y1, y2⟩ := kp_see hk4H.out hnr (show ask (setF K (HoldM K.fs (i : Int)).2).procs n = some P from hPH.out)
            rw [hfpH.out] at y1
            rw [hbH.out] at y2
            have g4 : w4.cell? ⟨q, 0, none⟩ = some (.pointer (some ⟨fp, 0, none⟩)) := y1
            have g4d : w4.drew.cell? ⟨q, 0, none⟩ = some (.pointer (some ⟨fp, 0, none⟩)) := y1
            have m4 : w4.cell? ⟨b, 3, none⟩ = some (.int .i64 P.dir) := y2.cell 3
            have m4d : w4.drew.cell? ⟨b, 3, none⟩ = some (.int .i64 P.dir) := y2.cell 3
            have hdp : Hid (∀ W : World, Below w4.heap.size w4 W → Calls Tryz.prog 228 #[.pointer (some ⟨fp, 0, none⟩), .int .i64 P.dir] W fun e w' => e = .returned (.int .i64 (DropM (HoldM K.fs (i : Int)).2 P.dir).1) ∧ KP (AllX B) w K M w' q (setF K (DropM (HoldM K.fs (i : Int)).2 P.dir).2)) := Lib.hid (by
              intro W hW
              obtain ⟨B4, M4, k1, k2, k3, k4, k5, k6, k7⟩ := hk4H.out
              have hD := fDrop_any (k1.below hW) (c := c) hw2H.out hcH.out P.dir
              rw [k2.fp, hfpH.out] at hD
              exact hD.mono fun e w' ⟨he, hp⟩ => ⟨he, KP.trans k6 (k7.below hW) k2 k3 k4 k5 hp⟩)
            clear y1 y2
            go_region_with (first | (go_at_call 228; refine (hdp.out w4.drew (Below.refl _ _).drew).mono ?_; rintro e w5 ⟨rfl, hk5⟩; have hk5H := Lib.hid hk5; clear hk5) | (go_at_call 228; refine (hdp.out w4 (Below.refl _ _)).mono ?_; rintro e w5 ⟨rfl, hk5⟩; have hk5H := Lib.hid hk5; clear hk5))
            all_goals
              obtain ⟨_, y2⟩ := kp_see hk5H.out hnr (show ask (setF K (DropM (HoldM K.fs (i : Int)).2 P.dir).2).procs n = some P from hPH.out)
              rw [hbH.out] at y2
              have v3 : w5.cell? ⟨b, 3, none⟩ = some (.int .i64 P.dir) := y2.cell 3
              have f3 : w5.frozen? ⟨b, 3, none⟩ = false := y2.frozen 3
              clear y2 g4 g4d m4 m4d
              go_wp2_with fail
              go_ret
              have := kp_pc hk5H.out hnr (show ask (setF K (DropM (HoldM K.fs (i : Int)).2 P.dir).2).procs n = some P from hPH.out) 3 (.int .i64 (i : Int)) (P' := { P with dir := i }) (fun _ => rfl) rfl
              rw [hbH.out] at this
              exact ⟨rfl, this⟩
      · rw [if_pos (.inr hkd)]
        have dk : ((kd : Int) == 2) = false := by rw [beq_eq_false_iff_ne]; omega
        clear hss hmy hhd
        go_enter Tryz.func163, Tryz.ntmps163
        go_upto_region 1 with fail
        go_region_with (first | (go_at_call 147; refine (hwk.out w.drew (Below.refl _ _).drew).mono ?_; rintro e w1 ⟨rfl, hb1⟩; have hb1H : Hid (Below w.heap.size w w1) := Lib.hid ((Below.refl _ _).drew.trans hb1); clear hb1) | (go_at_call 147; refine (hwk.out w (Below.refl _ _)).mono ?_; rintro e w1 ⟨rfl, hb1⟩; have hb1H : Hid (Below w.heap.size w w1) := Lib.hid hb1; clear hb1))
        all_goals
          have g0 : w1.cell? ⟨q, 0, none⟩ = some (.pointer (some ⟨fp, 0, none⟩)) := (hb1H.out.cell hql).trans kf
          go_wp2_with (go_at_call 148; refine (hst.out w1 hb1H.out).mono ?_; rintro e w2 ⟨rfl, hb2⟩; have hq2 := Nat.lt_of_lt_of_le hql (Nat.le_trans hb1H.out.size hb2.size); have hb2H : Hid (Below w.heap.size w w2) := Lib.hid (hb1H.out.trans (hb2.mono hb1H.out.size)); have g2 : w2.cell? ⟨q, 0, none⟩ = some (.pointer (some ⟨fp, 0, none⟩)) := (hb2H.out.cell hql).trans kf; clear hb2)
          go_ret
          exact ⟨rfl, KP.of hH.out (hb2H.out.alloc hb2H.out.size _)⟩
    · rw [if_pos (.inl hse)]
      have d0 : ((se : Int) == 0) = false := by rw [beq_eq_false_iff_ne]; omega
      clear hss hmy hhd
      go_enter Tryz.func163, Tryz.ntmps163
      go_upto_region 1 with fail
      go_region_with (first | (go_at_call 147; refine (hwk.out w.drew (Below.refl _ _).drew).mono ?_; rintro e w1 ⟨rfl, hb1⟩; have hb1H : Hid (Below w.heap.size w w1) := Lib.hid ((Below.refl _ _).drew.trans hb1); clear hb1) | (go_at_call 147; refine (hwk.out w (Below.refl _ _)).mono ?_; rintro e w1 ⟨rfl, hb1⟩; have hb1H : Hid (Below w.heap.size w w1) := Lib.hid hb1; clear hb1))
      all_goals
        have g0 : w1.cell? ⟨q, 0, none⟩ = some (.pointer (some ⟨fp, 0, none⟩)) := (hb1H.out.cell hql).trans kf
        go_wp2_with (go_at_call 148; refine (hst.out w1 hb1H.out).mono ?_; rintro e w2 ⟨rfl, hb2⟩; have hq2 := Nat.lt_of_lt_of_le hql (Nat.le_trans hb1H.out.size hb2.size); have hb2H : Hid (Below w.heap.size w w2) := Lib.hid (hb1H.out.trans (hb2.mono hb1H.out.size)); have g2 : w2.cell? ⟨q, 0, none⟩ = some (.pointer (some ⟨fp, 0, none⟩)) := (hb2H.out.cell hql).trans kf; clear hb2)
        go_ret
        exact ⟨rfl, KP.of hH.out (hb2H.out.alloc hb2H.out.size _)⟩
  · rw [if_pos he]
    have d1 : ((err : Int) == 0) = false := by rw [beq_eq_false_iff_ne]; omega
    clear hss hmy hhd hst
    go_enter Tryz.func163, Tryz.ntmps163
    go_upto_region 1 with fail
    go_region_with (first | (go_at_call 147; refine (hwk.out w.drew (Below.refl _ _).drew).mono ?_; rintro e w1 ⟨rfl, hb1⟩; have hb1H : Hid (Below w.heap.size w w1) := Lib.hid ((Below.refl _ _).drew.trans hb1); clear hb1) | (go_at_call 147; refine (hwk.out w (Below.refl _ _)).mono ?_; rintro e w1 ⟨rfl, hb1⟩; have hb1H : Hid (Below w.heap.size w w1) := Lib.hid hb1; clear hb1))
    all_goals
      go_wp2_with fail
      go_ret
      exact ⟨rfl, KP.of hH.out hb1H.out⟩
end
end Go.Proofs.YtmilagppbepnbaaGreat.Kn
