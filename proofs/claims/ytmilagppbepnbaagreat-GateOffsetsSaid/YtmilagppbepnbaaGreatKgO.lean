/- The kernel: list, chdir. Condition: it lies as stated. -/
import Derived.Test.YtmilagppbepnbaaGreatKgL
namespace Go.Proofs.YtmilagppbepnbaaGreat.Kn
open Go.RowKit Go.PlainAid
set_option linter.unusedVariables false
set_option linter.unusedSimpArgs false
attribute [local go_sem] Oper.semAt_some
def listKM (K : Ker) (P : Prc) (s : ByteArray) : List ByteArray × Int :=
  if (WalkM K.fs P.dir s).2 ≠ 0 then ([], (WalkM K.fs P.dir s).2)
  else if (ListM K.fs (WalkM K.fs P.dir s).1).2 = 0 ∧ MayM K.fs (WalkM K.fs P.dir s).1 4 = false then ([], 13)
  else ((ListM K.fs (WalkM K.fs P.dir s).1).1, (ListM K.fs (WalkM K.fs P.dir s).1).2)
section
variable {w w' : World} {B : Ix → Nat → Prop} {q : Nat} {K : Ker} {M : Mp} {c : Nat}
set_option maxRecDepth 100000 in
set_option maxHeartbeats 4000000 in
theorem list_k (h : KerIs w B q K M) (hw : WF c K.fs) (hc : c ≤ 5000) {n : Nat} {P : Prc} (hP : ask K.procs n = some P) (s : ByteArray) (hs : s.size ≤ maxLen) :
    Calls Tryz.prog 149 #[.pointer (some ⟨q, 0, none⟩), .pointer (some ⟨M.br n, 0, none⟩), .string s] w fun e w' => (∃ v, e = .returned (.tuple #[v, .int .i64 (listKM K P s).2]) ∧ w'.ownsRow w.heap.size 9 1 v (listKM K P s).1.length (strs (listKM K P s).1)) ∧ Below w.heap.size w w' := by
  obtain ⟨hB, hT, hS1, hS2, hne⟩ : PrcAt w (B (.proc n)) (M.br n) (M.bt n) P := h.part (.proc n) P hP
  obtain ⟨xv, dv, rv, o1, o2, ho⟩ : OwnIs w (B .own) q K M := h.part .own
  obtain ⟨b, hb⟩ : ∃ b, M.br n = b := ⟨_, rfl⟩
  obtain ⟨fp, hfp⟩ : ∃ fp, M.fp = fp := ⟨_, rfl⟩
  have kf : w.cell? ⟨q, 0, none⟩ = some (.pointer (some ⟨M.fp, 0, none⟩)) := ho.blk.cell 0
  rw [hb] at hB ⊢
  have k3 : w.cell? ⟨b, 3, none⟩ = some (.int .i64 P.dir) := hB.cell 3
  have hql := ho.blk.lt
  have hbl := hB.lt
  have hwk := Lib.hid (fun (W : World) (hW : Below w.heap.size w W) => fWalk_any (h.below hW) hw hc P.dir s hs)
  obtain ⟨i, hi⟩ : ∃ i, WalkM K.fs P.dir s = i := ⟨_, rfl⟩
  unfold listKM
  rw [hi] at hwk ⊢
  obtain ⟨ino, err⟩ := i
  have hls := Lib.hid (fun (W : World) (hW : Below w.heap.size w W) => fList_any (h.below hW) hw hc ino)
  have hmy := Lib.hid (fun (W : World) (hW : Below w.heap.size w W) => fMay_any (h.below hW) hw hc ino 4)
  rw [hfp] at kf hwk hls hmy
  have kfd : w.drew.cell? ⟨q, 0, none⟩ = some (.pointer (some ⟨fp, 0, none⟩)) := kf
  have k3d : w.drew.cell? ⟨b, 3, none⟩ = some (.int .i64 P.dir) := k3
  dsimp only at hwk ⊢
  clear h hw hc hP hB hT hS1 hS2 hne ho hb hfp hi
  by_cases he : err = 0
  · subst he
    rw [if_neg (fun k => k rfl)]
    obtain ⟨x, hx⟩ : ∃ x, ListM K.fs ino = x := ⟨_, rfl⟩
    rw [hx] at hls ⊢
    obtain ⟨ns, e2⟩ := x
    dsimp only at hls ⊢
    clear hx
    obtain ⟨my, hmye⟩ : ∃ my, MayM K.fs ino 4 = my := ⟨_, rfl⟩
    rw [hmye] at hmy ⊢
    clear hmye
    go_enter Tryz.func149, Tryz.ntmps149
    go_upto_region 1 with fail
    go_region_with (first | (go_at_call 147; refine (hwk.out w.drew (Below.refl _ _).drew).mono ?_; rintro e w1 ⟨rfl, hb1⟩; have hb1H : Hid (Below w.heap.size w w1) := Lib.hid ((Below.refl _ _).drew.trans hb1); clear hb1) | (go_at_call 147; refine (hwk.out w (Below.refl _ _)).mono ?_; rintro e w1 ⟨rfl, hb1⟩; have hb1H : Hid (Below w.heap.size w w1) := Lib.hid hb1; clear hb1))
    all_goals
      have g0 : w1.cell? ⟨q, 0, none⟩ = some (.pointer (some ⟨fp, 0, none⟩)) := (hb1H.out.cell hql).trans kf
      go_upto_region 5 with (go_at_call 129; refine (hls.out w1 hb1H.out).mono ?_; rintro e w2 ⟨⟨v, rfl, hv⟩, hb2⟩; have hb2H : Hid (Below w.heap.size w w2) := Lib.hid (hb1H.out.trans (hb2.mono hb1H.out.size)); have hvH := Lib.hid hv; have g2 : w2.cell? ⟨q, 0, none⟩ = some (.pointer (some ⟨fp, 0, none⟩)) := (hb2H.out.cell hql).trans kf; clear hb2 hv)
      by_cases h2 : e2 = 0
      · subst h2
        cases my with
        | true =>
          go_wp2_with (go_at_call 205; refine (hmy.out w2 hb2H.out).mono ?_; rintro e w3 ⟨rfl, rfl⟩)
          go_ret2
          exact ⟨⟨v, rfl, row_weak hvH.out hb1H.out.size⟩, hb2H.out⟩
        | false =>
          go_wp2_with (go_at_call 205; refine (hmy.out w2 hb2H.out).mono ?_; rintro e w3 ⟨rfl, rfl⟩)
          go_ret2
          exact ⟨⟨_, rfl, World.ownsRow_nil _ _ _ _⟩, hb2H.out⟩
      · have d2 : ((e2 : Int) == 0) = false := by rw [beq_eq_false_iff_ne]; omega
        go_wp2_with fail
        go_ret2
        exact ⟨⟨v, rfl, row_weak hvH.out hb1H.out.size⟩, hb2H.out⟩
  · rw [if_pos he]
    have d1 : ((err : Int) == 0) = false := by rw [beq_eq_false_iff_ne]; omega
    clear hls hmy
    go_enter Tryz.func149, Tryz.ntmps149
    go_upto_region 1 with fail
    go_region_with (first | (go_at_call 147; refine (hwk.out w.drew (Below.refl _ _).drew).mono ?_; rintro e w1 ⟨rfl, hb1⟩; have hb1H : Hid (Below w.heap.size w w1) := Lib.hid ((Below.refl _ _).drew.trans hb1); clear hb1) | (go_at_call 147; refine (hwk.out w (Below.refl _ _)).mono ?_; rintro e w1 ⟨rfl, hb1⟩; have hb1H : Hid (Below w.heap.size w w1) := Lib.hid hb1; clear hb1))
    all_goals
      go_wp2_with fail
      go_ret2
      exact ⟨⟨_, rfl, World.ownsRow_nil _ _ _ _⟩, hb1H.out⟩
def chdirM (K : Ker) (n : Nat) (P : Prc) (s : ByteArray) : Int × Ker :=
  if (WalkM K.fs P.dir s).2 ≠ 0 then ((WalkM K.fs P.dir s).2, K)
  else if (StatM K.fs (WalkM K.fs P.dir s).1).2 ≠ 0 ∨ kindM K.fs (WalkM K.fs P.dir s).1 ≠ 2 then (20, K)
  else if MayM K.fs (WalkM K.fs P.dir s).1 1 = false then (13, K)
  else (0, setR (setF K (DropM (HoldM K.fs (WalkM K.fs P.dir s).1).2 P.dir).2) n { P with dir := (WalkM K.fs P.dir s).1.toNat })
end
end Go.Proofs.YtmilagppbepnbaaGreat.Kn
