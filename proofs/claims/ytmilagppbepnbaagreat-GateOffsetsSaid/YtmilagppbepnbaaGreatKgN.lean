/- The kernel: writeFile. Condition: it lies as stated; where it is written is no great number. -/
import Derived.Test.YtmilagppbepnbaaGreatKgL
namespace Go.Proofs.YtmilagppbepnbaaGreat.Kn
open Go.RowKit Go.PlainAid
set_option linter.unusedVariables false
set_option linter.unusedSimpArgs false
attribute [local go_sem] Oper.semAt_some
def wrAt (K : Ker) (D : Dsc) : Nat := if flg D.flags 32 then sizeM K.fs D.n else D.at_
def writeFileM (K : Ker) (m : Nat) (D : Dsc) (s : ByteArray) : Int × Int × Ker :=
  ((WriteM K.fs D.n (wrAt K D) s).1, (WriteM K.fs D.n (wrAt K D) s).2.1, if (WriteM K.fs D.n (wrAt K D) s).2.1 = 0 then setD (setF K (WriteM K.fs D.n (wrAt K D) s).2.2) m { D with at_ := wrAt K D + (WriteM K.fs D.n (wrAt K D) s).1 } else setF K (WriteM K.fs D.n (wrAt K D) s).2.2)
theorem writeM_le (f : Fs) (n a : Int) (s : ByteArray) : (WriteM f n a s).1 ≤ s.size := by
  unfold WriteM
  split
  · exact Nat.zero_le _
  · repeat (first | split | exact Nat.zero_le _ | exact Nat.le_refl _)
theorem size_le {c : Nat} {f : Fs} (hw : WF c f) (hc : c ≤ 5000) (n : Int) : sizeM f n ≤ 70000 := by
  unfold sizeM
  cases hn : node f n with
  | none => exact Nat.zero_le _
  | some I =>
    obtain ⟨i, h1, _, h3⟩ := node_some hn
    have hf := (hw.fine hc).2 i I h3
    show I.size ≤ _
    unfold Ino.size
    split
    · have := hf.el; omega
    · have := hf.dl; omega
theorem gen_w {α : Type} {Q : α → Prop} (P : α → Prop) (w : α) (hP : P w) (h : ∀ W, P W → Q W) : Q w := h w hP
section
variable {w w' : World} {B : Ix → Nat → Prop} {q : Nat} {K : Ker} {M : Mp} {c : Nat}
set_option maxRecDepth 100000 in
set_option maxHeartbeats 20000000 in
theorem writeFile_any (h : KerIs w B q K M) (hw : WF c K.fs) (hc : c ≤ 5000) {m : Nat} {D : Dsc} (hD : ask K.descs m = some D) (s : ByteArray) (hs : s.size ≤ 1000000000000000000) (hat : D.at_ ≤ 1000000000000000000) :
    Calls Tryz.prog 192 #[.pointer (some ⟨q, 0, none⟩), .pointer (some ⟨M.bd m, 0, none⟩), .string s] w fun e w' => e = .returned (.tuple #[.int .i64 (writeFileM K m D s).1, .int .i64 (writeFileM K m D s).2.1]) ∧ KP (AllX B) w K M w' q (writeFileM K m D s).2.2 := by
  obtain ⟨xv, dv, rv, o1, o2, ho⟩ : OwnIs w (B .own) q K M := h.part .own
  have kf : w.cell? ⟨q, 0, none⟩ = some (.pointer (some ⟨M.fp, 0, none⟩)) := ho.blk.cell 0
  have kfd : w.drew.cell? ⟨q, 0, none⟩ = some (.pointer (some ⟨M.fp, 0, none⟩)) := kf
  obtain ⟨hBd, hSd⟩ : DscAt M.bx w (B (.desc m)) (M.bd m) D := h.part (.desc m) D hD
  have hmd := (h.num.ld _ (ask_mem hD)).2
  obtain ⟨d, hd⟩ : ∃ d, M.bd m = d := ⟨_, rfl⟩
  rw [hd] at hBd hSd ⊢
  have k1 : w.cell? ⟨d, 1, none⟩ = some (.int .i64 D.n) := hBd.cell 1
  have k1d : w.drew.cell? ⟨d, 1, none⟩ = some (.int .i64 D.n) := hBd.cell 1
  have k2 : w.cell? ⟨d, 2, none⟩ = some (.int .i64 D.at_) := hBd.cell 2
  have k4 : w.cell? ⟨d, 4, none⟩ = some (.int .i64 D.flags) := hBd.cell 4
  have hlt := hBd.lt
  have hql := ho.blk.lt
  have hwr := Lib.hid (fun (W : World) (a : Int) (hW : Below w.heap.size w W) => fWrite_any (h.below hW) hw hc D.n a s (by omega))
  have hst := Lib.hid (fun (W : World) (hW : Below w.heap.size w W) => fStat_any (h.below hW) hw hc D.n)
  obtain ⟨a0, m0, l0, he⟩ := stat_lit K.fs D.n
  rw [he] at hst
  have hsz := size_le hw hc D.n
  obtain ⟨sz, hsze⟩ : ∃ sz, sizeM K.fs D.n = sz := ⟨_, rfl⟩
  have hszH := Lib.hid hsze
  rw [hsze] at hst hsz
  have hdH := Lib.hid hd
  have hDH := Lib.hid hD
  have hSdH := Lib.hid hSd
  have hBdH := Lib.hid hBd
  have hH := Lib.hid h
  unfold writeFileM
  obtain ⟨at0, hate⟩ : ∃ a, wrAt K D = a := ⟨_, rfl⟩
  have hle := writeM_le K.fs D.n at0 s
  have hfin : Hid (∀ (W w3 : World) (r3 : Fs) (r1 : Nat), Frm (AllX B) w W → KP (AllX B) W K M w3 q (setF K r3) → (w3.cell? ⟨d, 2, none⟩ = some (.int .i64 D.at_) ∧ w3.frozen? ⟨d, 2, none⟩ = false) ∧ KP (AllX B) w K M w3 q (setF K r3) ∧ KP (AllX B) w K M (w3.setCell ⟨d, 2, none⟩ (.int .i64 ((at0 : Int) + (r1 : Int)))) q (setD (setF K r3) m { D with at_ := at0 + r1 })) := Lib.hid (by
    intro W w3 r3 r1 hF hk
    have hkp := KP.trans (K1 := K) (fun g hg => .inl hg) hF (MExt.refl _ _) (Nat.le_refl _) (Nat.le_refl _) (Nat.le_refl _) hk
    refine ⟨?_, hkp, ?_⟩
    · obtain ⟨B3, M3, e1, e2, e3, e4, e5, e6, e7⟩ := hkp
      obtain ⟨x1, x2⟩ : DscAt M3.bx w3 (B3 (.desc m)) (M3.bd m) D := e1.part (.desc m) D hD
      rw [e2.bd m hmd, hd] at x1
      exact ⟨x1.cell 2, x1.frozen 2⟩
    · obtain ⟨B3, M3, e1, e2, e3, e4, e5, e6, e7⟩ := hkp
      have ht := turn_dc e1 (show ask (setF K r3).descs m = some D from hD) 2 (.int .i64 ((at0 : Int) + (r1 : Int))) (D' := { D with at_ := at0 + r1 }) rfl
      rw [e2.bd m hmd, hd] at ht
      exact ⟨B3, M3, ht, e2, e3, e4, e5, e6, e7.setCell (a := ⟨d, 2, none⟩) (.inl ⟨_, hSd⟩) _⟩)
  obtain ⟨r, hr⟩ : ∃ r, WriteM K.fs D.n at0 s = r := ⟨_, rfl⟩
  rw [hate, hr]
  rw [hr] at hle
  have hwa := Lib.hid (fun (W : World) (hW : Below w.heap.size w W) => by have := hwr.out W at0 hW; rw [hr] at this; exact this)
  obtain ⟨r1, r2, r3⟩ := r
  dsimp only at hle hwa ⊢
  have hleH := Lib.hid hle
  have hateH := Lib.hid hate
  obtain ⟨fp, hfp⟩ : ∃ fp, M.fp = fp := ⟨_, rfl⟩
  rw [hfp] at kf kfd hst hwa
  clear h hw hc hD hBd hSd hmd hd ho hwr he hsze hfp hr hate hle
  cases h32 : flg D.flags 32 with
  | false =>
    obtain ⟨a32, b32⟩ := flg_false h32
    obtain rfl : at0 = D.at_ := by rw [← hateH.out]; unfold wrAt; rw [if_neg (by rw [h32]; decide)]
    have hfb := Lib.hid (Frm.refl (AllX B) w)
    clear h32
    by_cases h2 : r2 = 0
    · subst h2
      rw [if_pos rfl]
      go_enter Tryz.func192, Tryz.ntmps192
      go_upto_region 5 with fail
      go_region_with (first | (go_at_call 243; refine (hwa.out _ (Below.refl _ _).drew).mono ?_; rintro e w3 ⟨rfl, hk3⟩; have hk3H := Lib.hid hk3; clear hk3) | (go_at_call 243; refine (hwa.out _ (Below.refl _ _)).mono ?_; rintro e w3 ⟨rfl, hk3⟩; have hk3H := Lib.hid hk3; clear hk3))
      all_goals
        have hle2 := hleH.out
        obtain ⟨⟨v2, f2⟩, _, hkp⟩ := hfin.out _ w3 r3 r1 (by first | exact hfb.out | exact (Frm.of_below (Below.refl _ _).drew)) hk3H.out
        have hkpH := Lib.hid hkp
        clear hkp
        go_wp2_with fail
        go_ret2
        exact ⟨rfl, hkpH.out⟩
    · rw [if_neg h2]
      have d0 : ((r2 : Int) == 0) = false := by rw [beq_eq_false_iff_ne]; omega
      go_enter Tryz.func192, Tryz.ntmps192
      go_upto_region 5 with fail
      go_region_with (first | (go_at_call 243; refine (hwa.out _ (Below.refl _ _).drew).mono ?_; rintro e w3 ⟨rfl, hk3⟩; have hk3H := Lib.hid hk3; clear hk3) | (go_at_call 243; refine (hwa.out _ (Below.refl _ _)).mono ?_; rintro e w3 ⟨rfl, hk3⟩; have hk3H := Lib.hid hk3; clear hk3))
      all_goals
        obtain ⟨_, hkp, _⟩ := hfin.out _ w3 r3 r1 (by first | exact hfb.out | exact (Frm.of_below (Below.refl _ _).drew)) hk3H.out
        have hkpH := Lib.hid hkp
        clear hkp
        go_wp2_with fail
        go_ret2
        exact ⟨rfl, hkpH.out⟩
  | true =>
    obtain ⟨a32, b32⟩ := flg_true h32
    obtain rfl : at0 = sz := by rw [← hateH.out]; unfold wrAt; rw [if_pos h32]; exact hszH.out
    clear h32
    go_enter Tryz.func192, Tryz.ntmps192
    go_upto_region 3 with fail
    go_region_with (first | (go_at_call 148; refine (hst.out w (Below.refl _ _)).mono ?_; rintro e w1 ⟨rfl, hb1⟩; have hb1H : Hid (Below w.heap.size w w1) := Lib.hid hb1; clear hb1) | (go_at_call 148; refine (hst.out w.drew (Below.refl _ _).drew).mono ?_; rintro e w1 ⟨rfl, hb1⟩; have hb1H : Hid (Below w.heap.size w w1) := Lib.hid ((Below.refl _ _).drew.trans hb1); clear hb1) | (go_at_call 148; refine (hst.out (w.alloc (.cells #[.int .i64 0, .int .i64 0, .int .i64 0, .int .i64 0, .int .i64 0] 41)) ((Below.refl _ _).alloc (Nat.le_refl _) _)).mono ?_; rintro e w1 ⟨rfl, hb1⟩; have hb1H : Hid (Below w.heap.size w w1) := Lib.hid (((Below.refl _ _).alloc (Nat.le_refl _) _).trans (hb1.mono (by rw [World.size_alloc]; exact Nat.le_succ _))); have hX : Blk w1 w.heap.size 41 #[.int .i64 0, .int .i64 0, .int .i64 0, .int .i64 0, .int .i64 0] := (hb1.block w.heap.size (by rw [World.size_alloc]; exact Nat.lt_succ_self _)).trans (Blk.new w _ _); have z0 : w1.cell? ⟨w.heap.size, 0, none⟩ = some (.int .i64 0) := hX.cell 0; have y0 : w1.frozen? ⟨w.heap.size, 0, none⟩ = false := hX.frozen 0; have z1 : w1.cell? ⟨w.heap.size, 1, none⟩ = some (.int .i64 0) := hX.cell 1; have y1 : w1.frozen? ⟨w.heap.size, 1, none⟩ = false := hX.frozen 1; have z2 : w1.cell? ⟨w.heap.size, 2, none⟩ = some (.int .i64 0) := hX.cell 2; have y2 : w1.frozen? ⟨w.heap.size, 2, none⟩ = false := hX.frozen 2; have z3 : w1.cell? ⟨w.heap.size, 3, none⟩ = some (.int .i64 0) := hX.cell 3; have y3 : w1.frozen? ⟨w.heap.size, 3, none⟩ = false := hX.frozen 3; have z4 : w1.cell? ⟨w.heap.size, 4, none⟩ = some (.int .i64 0) := hX.cell 4; have y4 : w1.frozen? ⟨w.heap.size, 4, none⟩ = false := hX.frozen 4; have hXH := Lib.hid hX; clear hb1 hX) | (go_at_call 148; refine (hst.out (w.drew.alloc (.cells #[.int .i64 0, .int .i64 0, .int .i64 0, .int .i64 0, .int .i64 0] 41)) (((Below.refl _ _).drew).alloc (Nat.le_refl _) _)).mono ?_; rintro e w1 ⟨rfl, hb1⟩; have hb1H : Hid (Below w.heap.size w w1) := Lib.hid (((Below.refl _ _).drew.alloc (Nat.le_refl _) _).trans (hb1.mono (by rw [World.size_alloc]; exact Nat.le_succ _))); have hX : Blk w1 w.heap.size 41 #[.int .i64 0, .int .i64 0, .int .i64 0, .int .i64 0, .int .i64 0] := (hb1.block w.heap.size (by rw [World.size_alloc]; exact Nat.lt_succ_self _)).trans (Blk.new w.drew _ _); have z0 : w1.cell? ⟨w.heap.size, 0, none⟩ = some (.int .i64 0) := hX.cell 0; have y0 : w1.frozen? ⟨w.heap.size, 0, none⟩ = false := hX.frozen 0; have z1 : w1.cell? ⟨w.heap.size, 1, none⟩ = some (.int .i64 0) := hX.cell 1; have y1 : w1.frozen? ⟨w.heap.size, 1, none⟩ = false := hX.frozen 1; have z2 : w1.cell? ⟨w.heap.size, 2, none⟩ = some (.int .i64 0) := hX.cell 2; have y2 : w1.frozen? ⟨w.heap.size, 2, none⟩ = false := hX.frozen 2; have z3 : w1.cell? ⟨w.heap.size, 3, none⟩ = some (.int .i64 0) := hX.cell 3; have y3 : w1.frozen? ⟨w.heap.size, 3, none⟩ = false := hX.frozen 3; have z4 : w1.cell? ⟨w.heap.size, 4, none⟩ = some (.int .i64 0) := hX.cell 4; have y4 : w1.frozen? ⟨w.heap.size, 4, none⟩ = false := hX.frozen 4; have hXH := Lib.hid hX; clear hb1 hX))
    all_goals
      go_upto_region 4 with fail
      first
        | refine gen_w (Q := fun W => Code.wp _ _ _ _ W) (fun W => Below w.heap.size w W ∧ W.cell? ⟨w1.heap.size, 4, none⟩ = some (.int .i64 at0)) _ ⟨hb1H.out.alloc hb1H.out.size _, (Blk.new _ _ _).cell 4⟩ ?_
        | refine gen_w (Q := fun W => Code.wp _ _ _ _ W) (fun W => Below w.heap.size w W ∧ W.cell? ⟨w.heap.size, 4, none⟩ = some (.int .i64 at0)) _ ⟨((((hb1H.out.setCell (p := ⟨w.heap.size, 0, none⟩) (Nat.le_refl _) _).setCell (p := ⟨w.heap.size, 1, none⟩) (Nat.le_refl _) _).setCell (p := ⟨w.heap.size, 2, none⟩) (Nat.le_refl _) _).setCell (p := ⟨w.heap.size, 3, none⟩) (Nat.le_refl _) _).setCell (p := ⟨w.heap.size, 4, none⟩) (Nat.le_refl _) _, (((((hXH.out.set_ 0 _).set_ 1 _).set_ 2 _).set_ 3 _).set_ 4 _).cell 4⟩ ?_
      try clear z0 y0 z1 y1 z2 y2 z3 y3 z4 y4 hXH
      clear hb1H
      rintro W ⟨hbW, hW4⟩
      have hbWH := Lib.hid hbW
      have g0 : W.cell? ⟨q, 0, none⟩ = some (.pointer (some ⟨fp, 0, none⟩)) := (hbW.cell hql).trans kf
      have g1 : W.cell? ⟨d, 1, none⟩ = some (.int .i64 D.n) := (hbW.cell hlt).trans k1
      have g0d : W.drew.cell? ⟨q, 0, none⟩ = some (.pointer (some ⟨fp, 0, none⟩)) := g0
      have g1d : W.drew.cell? ⟨d, 1, none⟩ = some (.int .i64 D.n) := g1
      clear hbW
      go_upto_region 5 with fail
      go_region_with (first | (go_at_call 243; refine (hwa.out W.drew hbWH.out.drew).mono ?_; rintro e w3 ⟨rfl, hk3⟩; have hk3H := Lib.hid (KP.trans (K1 := K) (fun g hg => .inl hg) (Frm.of_below hbWH.out.drew) (MExt.refl _ _) (Nat.le_refl _) (Nat.le_refl _) (Nat.le_refl _) hk3); clear hk3) | (go_at_call 243; refine (hwa.out W hbWH.out).mono ?_; rintro e w3 ⟨rfl, hk3⟩; have hk3H := Lib.hid (KP.trans (K1 := K) (fun g hg => .inl hg) (Frm.of_below hbWH.out) (MExt.refl _ _) (Nat.le_refl _) (Nat.le_refl _) (Nat.le_refl _) hk3); clear hk3))
    all_goals
      clear g0 g1 g0d g1d hW4 hbWH
      obtain ⟨⟨v2, f2⟩, _, hkp⟩ := hfin.out w w3 r3 r1 (Frm.refl _ _) hk3H.out
      have hkpH := Lib.hid hkp
      clear hkp
      by_cases h2 : r2 = 0
      · subst h2
        have hle2 := hleH.out
        go_wp2_with fail
        go_ret2
        first | exact ⟨rfl, hkpH.out⟩ | exact ⟨rfl, by rw [if_pos rfl]; exact hkpH.out⟩
      · have d0 : ((r2 : Int) == 0) = false := by rw [beq_eq_false_iff_ne]; omega
        go_wp2_with fail
        go_ret2
        first | exact ⟨rfl, hk3H.out⟩ | exact ⟨rfl, by rw [if_neg h2]; exact hk3H.out⟩
end
end Go.Proofs.YtmilagppbepnbaaGreat.Kn
