/- The kernel: open, what is made, not cut. Condition: it lies as stated; the trees on the way hold what the tree holds along all calls. -/
import Derived.Test.YtmilagppbepnbaaGreatKgRa
namespace Go.Proofs.YtmilagppbepnbaaGreat.Kn
open Go.RowKit Go.PlainAid
set_option linter.unusedVariables false
set_option linter.unusedSimpArgs false
attribute [local go_sem] Oper.semAt_some
section
variable {w w' : World} {B : Ix → Nat → Prop} {q : Nat} {K K1 : Ker} {M : Mp} {c : Nat}
set_option maxRecDepth 100000 in
set_option maxHeartbeats 20000000 in
theorem open_create_a (h : KerIs w B q K M) (hw : WF c K.fs) (hc : c ≤ 5000) {n : Nat} {P : Prc} (hP : ask K.procs n = some P) (s : ByteArray) (hs : s.size ≤ maxLen) (flags mode : Int) (hlast : K.lastD < 90000)
    (hino : (findM K P s flags mode).2.1 = 0 → ∃ i : Nat, (findM K P s flags mode).1 = i) (hw2 : WF c (findM K P s flags mode).2.2) (hw3 : WF c (cutF (findM K P s flags mode).2.2 (findM K P s flags mode).1 flags)) (b63 : (bits .andNot .i64 flags 63 != 0) = false) (a63 : (bits .andNot .i64 flags 63 == 0) = true) (h3 : flg flags 3 = true) (h0 : tfreeM P.tab ≠ 0) (hC : (WalkM K.fs P.dir s).2 = 2 ∧ flg flags 4 = true) (hcz : (CreateM K.fs P.dir s (bits .andNot .i64 mode P.mask)).2.1 = 0) (h16 : flg flags 16 = false) :
    Calls Tryz.prog 139 #[.pointer (some ⟨q, 0, none⟩), .pointer (some ⟨M.br n, 0, none⟩), .string s, .int .i64 flags, .int .i64 mode] w fun e w' => e = .returned (.tuple #[.int .i64 (openM K n P s flags mode).1, .int .i64 (openM K n P s flags mode).2.1]) ∧ KP (AllX B) w K M w' q (openM K n P s flags mode).2.2 := by
  obtain ⟨hB, hT, hS1, hS2, hne⟩ : PrcAt w (B (.proc n)) (M.br n) (M.bt n) P := h.part (.proc n) P hP
  obtain ⟨xv, dv, rv, o1, o2, ho⟩ : OwnIs w (B .own) q K M := h.part .own
  have hnr := (h.num.lr _ (ask_mem hP)).2
  obtain ⟨b, hb⟩ : ∃ b, M.br n = b := ⟨_, rfl⟩
  obtain ⟨fp, hfp⟩ : ∃ fp, M.fp = fp := ⟨_, rfl⟩
  obtain ⟨tb, htb⟩ : ∃ tb, M.bt n = tb := ⟨_, rfl⟩
  have kf : w.cell? ⟨q, 0, none⟩ = some (.pointer (some ⟨M.fp, 0, none⟩)) := ho.blk.cell 0
  have hfree := Lib.hid (Pp.free_any w hT)
  rw [htb] at hB hfree
  rw [hb] at hB ⊢
  have c2 : w.cell? ⟨b, 2, none⟩ = some (.pointer (some ⟨tb, 0, none⟩)) := hB.cell 2
  have k3 : w.cell? ⟨b, 3, none⟩ = some (.int .i64 P.dir) := hB.cell 3
  have k4 : w.cell? ⟨b, 4, none⟩ = some (.int .i64 P.mask) := hB.cell 4
  have hql := ho.blk.lt
  have hbl := hB.lt
  have hH := Lib.hid h
  have hPH := Lib.hid hP
  have hcH := Lib.hid hc
  have hw2H := Lib.hid hw2
  have hw3H := Lib.hid hw3
  have hbH := Lib.hid hb
  have hfpH := Lib.hid hfp
  have hse : Hid (∀ (W : World) (f : Fs), KP (AllX B) w K M W q (setF K f) → W.cell? ⟨q, 0, none⟩ = some (.pointer (some ⟨fp, 0, none⟩))) := Lib.hid (fun W f hk => by
    have := (kp_see hk hnr (show ask (setF K f).procs n = some P from hP)).1
    rw [hfp] at this; exact this)
  have hho : Hid (∀ (W : World) (f : Fs), KP (AllX B) w K M W q (setF K f) → WF c f → ∀ i : Int, Calls Tryz.prog 30 #[.pointer (some ⟨fp, 0, none⟩), .int .i64 i] W fun e w2 => e = .returned (.int .i64 (HoldM f i).1) ∧ KP (AllX B) w K M w2 q (setF K (HoldM f i).2)) := Lib.hid (fun W f hk hf i => by
    have := kp_hold hk (c := c) hf hc i
    rw [hfp] at this; exact this)
  have hinA : Hid (∀ (W : World) (f : Fs) (i : Nat), KP (AllX B) w K M W q (setF K f) → Calls Tryz.prog 31 #[.pointer (some ⟨q, 0, none⟩), .pointer (some ⟨b, 0, none⟩), .pointer (some ⟨W.heap.size, 0, none⟩)] (W.alloc (.cells #[.int .i64 2, .int .i64 i, .int .i64 0, .int .i64 0, .int .i64 flags, .pointer none, .string ⟨#[]⟩] 91)) fun e w2 => e = .returned (.int .i64 (tputM P.tab ((K.lastD : Int) + 1) 0).1) ∧ KP (AllX B) w K M w2 q (instM (setF K f) n P ⟨2, i, 0, 0, flags, none, ⟨#[]⟩⟩)) := Lib.hid (fun W f i hk => by
    have := kp_inst hk hnr (show ask (setF K f).procs n = some P from hP) hlast i flags
    rw [hb] at this; exact this)
  have htrA : Hid (∀ (W : World) (f : Fs) (i : Int), WF c f → KP (AllX B) w K M W q (setF K f) → Calls Tryz.prog 197 #[.pointer (some ⟨fp, 0, none⟩), .int .i64 i, .int .i64 0] W fun e w2 => e = .returned (.int .i64 (TruncM f i 0).1) ∧ KP (AllX B) w K M w2 q (setF K (TruncM f i 0).2)) := Lib.hid (fun W f i hf hk => by
    have := kp_trunc hk (c := c) hf hc i 0
    rw [hfp] at this; exact this)
  have hwk := Lib.hid (fun (W : World) (hW : Below w.heap.size w W) => fWalk_any (h.below hW) hw hc P.dir s hs)
  have hcr := Lib.hid (fun (W : World) (hW : Below w.heap.size w W) => fCreate_any (h.below hW) hw hc P.dir s (bits .andNot .i64 mode P.mask) hs)
  have hmo := Lib.hid (fun (W : World) (hW : Below w.heap.size w W) => mayOpen_any (h.below hW) hw hc (WalkM K.fs P.dir s).1 flags)
  rw [hfp] at kf hwk hcr
  unfold openM
  rw [b63, Bool.false_or]
  obtain ⟨a3, b3⟩ := flg_true h3
  rw [h3, if_neg (show ¬ (!true) = true by decide)]
  obtain ⟨fr, hfr⟩ : ∃ fr, tfreeM P.tab = fr := ⟨_, rfl⟩
  have hfree2 : Hid (Calls Tryz.prog 194 #[.pointer (some ⟨tb, 0, none⟩)] w fun e w' => e = .returned (.int .i64 fr) ∧ Below w.heap.size w w') := Lib.hid (by rw [← hfr]; exact hfree.out)
  rw [hfr] at h0 ⊢
  clear hfree
  rw [if_neg h0]
  have d0 : (fr == 0) = false := beq_eq_false_iff_ne.2 h0
  obtain ⟨wi, hwi⟩ : ∃ x, WalkM K.fs P.dir s = x := ⟨_, rfl⟩
  unfold findM at hino hw2H hw3H ⊢
  rw [hwi] at hwk hmo hino hw2H hw3H hC ⊢
  obtain ⟨wino, werr⟩ := wi
  dsimp only at hwk hmo hino hw2H hw3H hC ⊢
  clear hw2 hw3 hfr h3
  obtain ⟨rfl, h4⟩ := hC
  obtain ⟨a4, b4⟩ := flg_true h4
  have hCC : (2 : Nat) = 2 ∧ flg flags 4 = true := ⟨rfl, h4⟩
  rw [if_pos hCC] at hino hw2H hw3H ⊢
  obtain ⟨cr, hcre⟩ : ∃ x, CreateM K.fs P.dir s (bits .andNot .i64 mode P.mask) = x := ⟨_, rfl⟩
  rw [hcre] at hcr hino hw2H hw3H hcz ⊢
  obtain ⟨cr1, cr2, cr3⟩ := cr
  dsimp only at hcr hino hw2H hw3H hcz ⊢
  clear h4 hcre hmo hino hCC hwi
  subst hcz
  rw [if_neg (by simp)]
  have htr := Lib.hid (fun (W : World) hk => htrA.out W cr3 (cr1 : Int) hw2H.out hk)
  have hin := Lib.hid (fun (W : World) hk => hinA.out W (HoldM (cutF cr3 (cr1 : Int) flags) (cr1 : Int)).2 cr1 hk)
  obtain ⟨a16, b16⟩ := flg_false h16
  have hcu : cutF cr3 (cr1 : Int) flags = cr3 := by unfold cutF; rw [h16]; rfl
  rw [hcu] at hin hw3H ⊢
  clear h16 hcu
  clear h hw hc hP hB hT hS1 hS2 hne ho hb hfp htb
  go_enter Tryz.func139, Tryz.ntmps139
  go_upto_region 5 with (go_at_call 194; refine hfree2.out.mono ?_; rintro e w1 ⟨rfl, hb1⟩; have g1 : w1.cell? ⟨q, 0, none⟩ = some (.pointer (some ⟨fp, 0, none⟩)) := (hb1.cell hql).trans kf; have m1 : w1.cell? ⟨b, 3, none⟩ = some (.int .i64 P.dir) := (hb1.cell hbl).trans k3; have g1d : w1.drew.cell? ⟨q, 0, none⟩ = some (.pointer (some ⟨fp, 0, none⟩)) := g1; have m1d : w1.drew.cell? ⟨b, 3, none⟩ = some (.int .i64 P.dir) := m1; have hb1H := Lib.hid hb1; clear hb1)
  go_region_with (first | (go_at_call 147; refine (hwk.out w1.drew hb1H.out.drew).mono ?_; rintro e w2 ⟨rfl, hb2⟩; have hb2H : Hid (Below w.heap.size w w2) := Lib.hid (hb1H.out.drew.trans (hb2.mono hb1H.out.drew.size)); clear hb2) | (go_at_call 147; refine (hwk.out w1 hb1H.out).mono ?_; rintro e w2 ⟨rfl, hb2⟩; have hb2H : Hid (Below w.heap.size w w2) := Lib.hid (hb1H.out.trans (hb2.mono hb1H.out.size)); clear hb2))
  all_goals
    clear g1 g1d m1 m1d hb1H
    have g2 : w2.cell? ⟨q, 0, none⟩ = some (.pointer (some ⟨fp, 0, none⟩)) := (hb2H.out.cell hql).trans kf
    have m2 : w2.cell? ⟨b, 3, none⟩ = some (.int .i64 P.dir) := (hb2H.out.cell hbl).trans k3
    have n2 : w2.cell? ⟨b, 4, none⟩ = some (.int .i64 P.mask) := (hb2H.out.cell hbl).trans k4
    have g2d : w2.drew.cell? ⟨q, 0, none⟩ = some (.pointer (some ⟨fp, 0, none⟩)) := g2
    have m2d : w2.drew.cell? ⟨b, 3, none⟩ = some (.int .i64 P.dir) := m2
    have n2d : w2.drew.cell? ⟨b, 4, none⟩ = some (.int .i64 P.mask) := n2
  all_goals
    go_upto_region 7 with fail
    go_region_with (first | (go_at_call 195; refine (hcr.out w2.drew hb2H.out.drew).mono ?_; rintro e w3 ⟨rfl, hk3⟩; have hk3H := Lib.hid (KP.trans (K1 := K) (fun g hg => .inl hg) (Frm.of_below hb2H.out.drew) (MExt.refl _ _) (Nat.le_refl _) (Nat.le_refl _) (Nat.le_refl _) hk3); clear hk3) | (go_at_call 195; refine (hcr.out w2 hb2H.out).mono ?_; rintro e w3 ⟨rfl, hk3⟩; have hk3H := Lib.hid (KP.trans (K1 := K) (fun g hg => .inl hg) (Frm.of_below hb2H.out) (MExt.refl _ _) (Nat.le_refl _) (Nat.le_refl _) (Nat.le_refl _) hk3); clear hk3))
  all_goals
    clear g2 g2d m2 m2d n2 n2d
  all_goals
    have g3 : w3.cell? ⟨q, 0, none⟩ = some (.pointer (some ⟨fp, 0, none⟩)) := hse.out _ _ hk3H.out
    first
      | (go_wp2_with (first | (go_at_call 197; refine (htr.out _ hk3H.out).mono ?_; rintro e w4 ⟨rfl, hk4⟩; have g4 : w4.cell? ⟨q, 0, none⟩ = some (.pointer (some ⟨fp, 0, none⟩)) := hse.out _ _ hk4; have hk4H := Lib.hid hk4; clear hk4) | (go_at_call 30; refine (hho.out _ _ hk4H.out hw3H.out _).mono ?_; rintro e w5 ⟨rfl, hk5⟩; have hk5H := Lib.hid hk5; clear hk5) | (go_at_call 31; refine (hin.out _ hk5H.out).mono ?_; rintro e w6 ⟨rfl, hk6⟩; have hk6H := Lib.hid hk6; clear hk6))
         go_ret2
         exact ⟨rfl, hk6H.out⟩)
      | (go_wp2_with (first | (go_at_call 30; refine (hho.out _ _ hk3H.out hw3H.out _).mono ?_; rintro e w5 ⟨rfl, hk5⟩; have hk5H := Lib.hid hk5; clear hk5) | (go_at_call 31; refine (hin.out _ hk5H.out).mono ?_; rintro e w6 ⟨rfl, hk6⟩; have hk6H := Lib.hid hk6; clear hk6))
         go_ret2
         exact ⟨rfl, hk6H.out⟩)
end
end Go.Proofs.YtmilagppbepnbaaGreat.Kn
