/- The kernel: mayOpen. Condition: it lies as stated. -/
import Derived.Test.YtmilagppbepnbaaGreatKgK
namespace Go.Proofs.YtmilagppbepnbaaGreat.Kn
open Go.RowKit Go.PlainAid
set_option linter.unusedVariables false
set_option linter.unusedSimpArgs false
attribute [local go_sem] Oper.semAt_some
def kindM (f : Fs) (n : Int) : Nat := match node f n with | none => 0 | some I => I.kind
def sizeM (f : Fs) (n : Int) : Nat := match node f n with | none => 0 | some I => I.size
def flg (flags m : Int) : Bool := bits .and .i64 flags m != 0
theorem stat_lit (f : Fs) (n : Int) : ∃ a m l : Int, (StatM f n).1 = #[.int .i64 a, .int .i64 (kindM f n), .int .i64 m, .int .i64 l, .int .i64 (sizeM f n)] := by
  unfold StatM kindM sizeM
  cases node f n with
  | none => exact ⟨0, 0, 0, rfl⟩
  | some I => exact ⟨n, I.mode, I.links, rfl⟩
def mayOpenM (K : Ker) (ino flags : Int) : Int :=
  if flg flags 4 && flg flags 8 then 17 else if kindM K.fs ino = 2 then 21 else if flg flags 1 && !MayM K.fs ino 4 then 13 else if flg flags 2 && !MayM K.fs ino 2 then 13 else 0
theorem flg_true {flags m : Int} (h : flg flags m = true) : (bits .and .i64 flags m == 0) = false ∧ (bits .and .i64 flags m != 0) = true := by
  unfold flg at h
  refine ⟨?_, h⟩
  rw [bne, Bool.not_eq_true'] at h
  exact h
theorem flg_false {flags m : Int} (h : flg flags m = false) : (bits .and .i64 flags m == 0) = true ∧ (bits .and .i64 flags m != 0) = false := by
  unfold flg at h
  refine ⟨?_, h⟩
  rw [bne, Bool.not_eq_false'] at h
  exact h
section
variable {w w' : World} {B : Ix → Nat → Prop} {q : Nat} {K : Ker} {M : Mp} {c : Nat}
set_option maxRecDepth 100000 in
set_option maxHeartbeats 4000000 in
theorem mayOpen_any (h : KerIs w B q K M) (hw : WF c K.fs) (hc : c ≤ 5000) (ino flags : Int) :
    Calls Tryz.prog 196 #[.pointer (some ⟨q, 0, none⟩), .int .i64 ino, .int .i64 flags] w fun e w' => e = .returned (.int .i64 (mayOpenM K ino flags)) ∧ Below w.heap.size w w' := by
  obtain ⟨xv, dv, rv, o1, o2, ho⟩ : OwnIs w (B .own) q K M := h.part .own
  have kf : Hid (w.cell? ⟨q, 0, none⟩ = some (.pointer (some ⟨M.fp, 0, none⟩))) := Lib.hid (ho.blk.cell 0)
  have hql := ho.blk.lt
  have hst := Lib.hid (fStat_any h hw hc ino)
  have hm := Lib.hid (fun (W : World) (want : Int) (hW : Below w.heap.size w W) => fMay_any (h.below hW) hw hc ino want)
  obtain ⟨a, m, l, he⟩ := stat_lit K.fs ino
  rw [he] at hst
  unfold mayOpenM
  obtain ⟨er, her⟩ : ∃ er, (StatM K.fs ino).2 = er := ⟨_, rfl⟩
  rw [her] at hst
  obtain ⟨fp, hfp⟩ : ∃ fp, M.fp = fp := ⟨_, rfl⟩
  rw [hfp] at kf hst hm
  obtain ⟨kd, hkd⟩ : ∃ kd, kindM K.fs ino = kd := ⟨_, rfl⟩
  obtain ⟨sz, hsz⟩ : ∃ sz, sizeM K.fs ino = sz := ⟨_, rfl⟩
  rw [hkd, hsz] at hst
  rw [hkd]
  have kw := kf.out
  clear hkd hsz hfp her he ho h hw hc
  cases h4 : flg flags 4 with
  | true =>
    obtain ⟨a4, b4⟩ := flg_true h4
    cases h8 : flg flags 8 with
    | true =>
      obtain ⟨a8, b8⟩ := flg_true h8
      clear h4 h8
      go_enter Tryz.func196, Tryz.ntmps196
      go_wp2_with (first
        | (go_at_call 148; refine hst.out.mono ?_; rintro e w1 ⟨rfl, hb1⟩; have ef1 : w1.cell? ⟨q, 0, none⟩ = some (.pointer (some ⟨fp, 0, none⟩)) := (hb1.cell hql).trans kf.out; have hq1 := Nat.lt_of_lt_of_le hql hb1.size; have hb1H := Lib.hid hb1; clear hb1)
        | (go_at_call 205; refine (hm.out _ _ (hb1H.out.trans (((Below.refl _ _).alloc (Nat.le_refl _) _).mono hb1H.out.size))).mono ?_; rintro e w2 ⟨rfl, rfl⟩; first | rw [hm4] | rw [hm2]))
      go_ret
      exact ⟨rfl, hb1H.out.trans (((Below.refl _ _).alloc (Nat.le_refl _) _).mono hb1H.out.size)⟩
    | false =>
      obtain ⟨a8, b8⟩ := flg_false h8
      clear h8
      clear h4
      by_cases hk : kd = 2
      · subst hk
        go_enter Tryz.func196, Tryz.ntmps196
        go_wp2_with (first
          | (go_at_call 148; refine hst.out.mono ?_; rintro e w1 ⟨rfl, hb1⟩; have ef1 : w1.cell? ⟨q, 0, none⟩ = some (.pointer (some ⟨fp, 0, none⟩)) := (hb1.cell hql).trans kf.out; have hq1 := Nat.lt_of_lt_of_le hql hb1.size; have hb1H := Lib.hid hb1; clear hb1)
          | (go_at_call 205; refine (hm.out _ _ (hb1H.out.trans (((Below.refl _ _).alloc (Nat.le_refl _) _).mono hb1H.out.size))).mono ?_; rintro e w2 ⟨rfl, rfl⟩; first | rw [hm4] | rw [hm2]))
        go_ret
        exact ⟨rfl, hb1H.out.trans (((Below.refl _ _).alloc (Nat.le_refl _) _).mono hb1H.out.size)⟩
      · have dk : ((kd : Int) == 2) = false := by rw [beq_eq_false_iff_ne]; omega
        rw [if_neg hk]
        clear hk
        cases h2 : flg flags 2 with
        | true =>
          obtain ⟨a2, b2⟩ := flg_true h2
          clear h2
          cases h1 : flg flags 1 with
          | true =>
            obtain ⟨a1, b1⟩ := flg_true h1
            clear h1
            cases hm4 : MayM K.fs ino 4 with
            | false =>
              go_enter Tryz.func196, Tryz.ntmps196
              go_wp2_with (first
                | (go_at_call 148; refine hst.out.mono ?_; rintro e w1 ⟨rfl, hb1⟩; have ef1 : w1.cell? ⟨q, 0, none⟩ = some (.pointer (some ⟨fp, 0, none⟩)) := (hb1.cell hql).trans kf.out; have hq1 := Nat.lt_of_lt_of_le hql hb1.size; have hb1H := Lib.hid hb1; clear hb1)
                | (go_at_call 205; refine (hm.out _ _ (hb1H.out.trans (((Below.refl _ _).alloc (Nat.le_refl _) _).mono hb1H.out.size))).mono ?_; rintro e w2 ⟨rfl, rfl⟩; first | rw [hm4] | rw [hm2]))
              go_ret
              exact ⟨rfl, hb1H.out.trans (((Below.refl _ _).alloc (Nat.le_refl _) _).mono hb1H.out.size)⟩
            | true =>
              cases hm2 : MayM K.fs ino 2 with
              | false =>
                go_enter Tryz.func196, Tryz.ntmps196
                go_wp2_with (first
                  | (go_at_call 148; refine hst.out.mono ?_; rintro e w1 ⟨rfl, hb1⟩; have ef1 : w1.cell? ⟨q, 0, none⟩ = some (.pointer (some ⟨fp, 0, none⟩)) := (hb1.cell hql).trans kf.out; have hq1 := Nat.lt_of_lt_of_le hql hb1.size; have hb1H := Lib.hid hb1; clear hb1)
                  | (go_at_call 205; refine (hm.out _ _ (hb1H.out.trans (((Below.refl _ _).alloc (Nat.le_refl _) _).mono hb1H.out.size))).mono ?_; rintro e w2 ⟨rfl, rfl⟩; first | rw [hm4] | rw [hm2]))
                go_ret
                exact ⟨rfl, hb1H.out.trans (((Below.refl _ _).alloc (Nat.le_refl _) _).mono hb1H.out.size)⟩
              | true =>
                go_enter Tryz.func196, Tryz.ntmps196
                go_wp2_with (first
                  | (go_at_call 148; refine hst.out.mono ?_; rintro e w1 ⟨rfl, hb1⟩; have ef1 : w1.cell? ⟨q, 0, none⟩ = some (.pointer (some ⟨fp, 0, none⟩)) := (hb1.cell hql).trans kf.out; have hq1 := Nat.lt_of_lt_of_le hql hb1.size; have hb1H := Lib.hid hb1; clear hb1)
                  | (go_at_call 205; refine (hm.out _ _ (hb1H.out.trans (((Below.refl _ _).alloc (Nat.le_refl _) _).mono hb1H.out.size))).mono ?_; rintro e w2 ⟨rfl, rfl⟩; first | rw [hm4] | rw [hm2]))
                go_ret
                exact ⟨rfl, hb1H.out.trans (((Below.refl _ _).alloc (Nat.le_refl _) _).mono hb1H.out.size)⟩
          | false =>
            obtain ⟨a1, b1⟩ := flg_false h1
            clear h1
            cases hm2 : MayM K.fs ino 2 with
            | false =>
              go_enter Tryz.func196, Tryz.ntmps196
              go_wp2_with (first
                | (go_at_call 148; refine hst.out.mono ?_; rintro e w1 ⟨rfl, hb1⟩; have ef1 : w1.cell? ⟨q, 0, none⟩ = some (.pointer (some ⟨fp, 0, none⟩)) := (hb1.cell hql).trans kf.out; have hq1 := Nat.lt_of_lt_of_le hql hb1.size; have hb1H := Lib.hid hb1; clear hb1)
                | (go_at_call 205; refine (hm.out _ _ (hb1H.out.trans (((Below.refl _ _).alloc (Nat.le_refl _) _).mono hb1H.out.size))).mono ?_; rintro e w2 ⟨rfl, rfl⟩; first | rw [hm4] | rw [hm2]))
              go_ret
              exact ⟨rfl, hb1H.out.trans (((Below.refl _ _).alloc (Nat.le_refl _) _).mono hb1H.out.size)⟩
            | true =>
              go_enter Tryz.func196, Tryz.ntmps196
              go_wp2_with (first
                | (go_at_call 148; refine hst.out.mono ?_; rintro e w1 ⟨rfl, hb1⟩; have ef1 : w1.cell? ⟨q, 0, none⟩ = some (.pointer (some ⟨fp, 0, none⟩)) := (hb1.cell hql).trans kf.out; have hq1 := Nat.lt_of_lt_of_le hql hb1.size; have hb1H := Lib.hid hb1; clear hb1)
                | (go_at_call 205; refine (hm.out _ _ (hb1H.out.trans (((Below.refl _ _).alloc (Nat.le_refl _) _).mono hb1H.out.size))).mono ?_; rintro e w2 ⟨rfl, rfl⟩; first | rw [hm4] | rw [hm2]))
              go_ret
              exact ⟨rfl, hb1H.out.trans (((Below.refl _ _).alloc (Nat.le_refl _) _).mono hb1H.out.size)⟩
        | false =>
          obtain ⟨a2, b2⟩ := flg_false h2
          clear h2
          cases h1 : flg flags 1 with
          | true =>
            obtain ⟨a1, b1⟩ := flg_true h1
            clear h1
            cases hm4 : MayM K.fs ino 4 with
            | false =>
              go_enter Tryz.func196, Tryz.ntmps196
              go_wp2_with (first
                | (go_at_call 148; refine hst.out.mono ?_; rintro e w1 ⟨rfl, hb1⟩; have ef1 : w1.cell? ⟨q, 0, none⟩ = some (.pointer (some ⟨fp, 0, none⟩)) := (hb1.cell hql).trans kf.out; have hq1 := Nat.lt_of_lt_of_le hql hb1.size; have hb1H := Lib.hid hb1; clear hb1)
                | (go_at_call 205; refine (hm.out _ _ (hb1H.out.trans (((Below.refl _ _).alloc (Nat.le_refl _) _).mono hb1H.out.size))).mono ?_; rintro e w2 ⟨rfl, rfl⟩; first | rw [hm4] | rw [hm2]))
              go_ret
              exact ⟨rfl, hb1H.out.trans (((Below.refl _ _).alloc (Nat.le_refl _) _).mono hb1H.out.size)⟩
            | true =>
              go_enter Tryz.func196, Tryz.ntmps196
              go_wp2_with (first
                | (go_at_call 148; refine hst.out.mono ?_; rintro e w1 ⟨rfl, hb1⟩; have ef1 : w1.cell? ⟨q, 0, none⟩ = some (.pointer (some ⟨fp, 0, none⟩)) := (hb1.cell hql).trans kf.out; have hq1 := Nat.lt_of_lt_of_le hql hb1.size; have hb1H := Lib.hid hb1; clear hb1)
                | (go_at_call 205; refine (hm.out _ _ (hb1H.out.trans (((Below.refl _ _).alloc (Nat.le_refl _) _).mono hb1H.out.size))).mono ?_; rintro e w2 ⟨rfl, rfl⟩; first | rw [hm4] | rw [hm2]))
              go_ret
              exact ⟨rfl, hb1H.out.trans (((Below.refl _ _).alloc (Nat.le_refl _) _).mono hb1H.out.size)⟩
          | false =>
            obtain ⟨a1, b1⟩ := flg_false h1
            clear h1
            go_enter Tryz.func196, Tryz.ntmps196
            go_wp2_with (first
              | (go_at_call 148; refine hst.out.mono ?_; rintro e w1 ⟨rfl, hb1⟩; have ef1 : w1.cell? ⟨q, 0, none⟩ = some (.pointer (some ⟨fp, 0, none⟩)) := (hb1.cell hql).trans kf.out; have hq1 := Nat.lt_of_lt_of_le hql hb1.size; have hb1H := Lib.hid hb1; clear hb1)
              | (go_at_call 205; refine (hm.out _ _ (hb1H.out.trans (((Below.refl _ _).alloc (Nat.le_refl _) _).mono hb1H.out.size))).mono ?_; rintro e w2 ⟨rfl, rfl⟩; first | rw [hm4] | rw [hm2]))
            go_ret
            exact ⟨rfl, hb1H.out.trans (((Below.refl _ _).alloc (Nat.le_refl _) _).mono hb1H.out.size)⟩
  | false =>
    obtain ⟨a4, b4⟩ := flg_false h4
    clear h4
    by_cases hk : kd = 2
    · subst hk
      go_enter Tryz.func196, Tryz.ntmps196
      go_wp2_with (first
        | (go_at_call 148; refine hst.out.mono ?_; rintro e w1 ⟨rfl, hb1⟩; have ef1 : w1.cell? ⟨q, 0, none⟩ = some (.pointer (some ⟨fp, 0, none⟩)) := (hb1.cell hql).trans kf.out; have hq1 := Nat.lt_of_lt_of_le hql hb1.size; have hb1H := Lib.hid hb1; clear hb1)
        | (go_at_call 205; refine (hm.out _ _ (hb1H.out.trans (((Below.refl _ _).alloc (Nat.le_refl _) _).mono hb1H.out.size))).mono ?_; rintro e w2 ⟨rfl, rfl⟩; first | rw [hm4] | rw [hm2]))
      go_ret
      exact ⟨rfl, hb1H.out.trans (((Below.refl _ _).alloc (Nat.le_refl _) _).mono hb1H.out.size)⟩
    · have dk : ((kd : Int) == 2) = false := by rw [beq_eq_false_iff_ne]; omega
      rw [if_neg hk]
      clear hk
      cases h2 : flg flags 2 with
      | true =>
        obtain ⟨a2, b2⟩ := flg_true h2
        clear h2
        cases h1 : flg flags 1 with
        | true =>
          obtain ⟨a1, b1⟩ := flg_true h1
          clear h1
          cases hm4 : MayM K.fs ino 4 with
          | false =>
            go_enter Tryz.func196, Tryz.ntmps196
            go_wp2_with (first
              | (go_at_call 148; refine hst.out.mono ?_; rintro e w1 ⟨rfl, hb1⟩; have ef1 : w1.cell? ⟨q, 0, none⟩ = some (.pointer (some ⟨fp, 0, none⟩)) := (hb1.cell hql).trans kf.out; have hq1 := Nat.lt_of_lt_of_le hql hb1.size; have hb1H := Lib.hid hb1; clear hb1)
              | (go_at_call 205; refine (hm.out _ _ (hb1H.out.trans (((Below.refl _ _).alloc (Nat.le_refl _) _).mono hb1H.out.size))).mono ?_; rintro e w2 ⟨rfl, rfl⟩; first | rw [hm4] | rw [hm2]))
            go_ret
            exact ⟨rfl, hb1H.out.trans (((Below.refl _ _).alloc (Nat.le_refl _) _).mono hb1H.out.size)⟩
          | true =>
            cases hm2 : MayM K.fs ino 2 with
            | false =>
              go_enter Tryz.func196, Tryz.ntmps196
              go_wp2_with (first
                | (go_at_call 148; refine hst.out.mono ?_; rintro e w1 ⟨rfl, hb1⟩; have ef1 : w1.cell? ⟨q, 0, none⟩ = some (.pointer (some ⟨fp, 0, none⟩)) := (hb1.cell hql).trans kf.out; have hq1 := Nat.lt_of_lt_of_le hql hb1.size; have hb1H := Lib.hid hb1; clear hb1)
                | (go_at_call 205; refine (hm.out _ _ (hb1H.out.trans (((Below.refl _ _).alloc (Nat.le_refl _) _).mono hb1H.out.size))).mono ?_; rintro e w2 ⟨rfl, rfl⟩; first | rw [hm4] | rw [hm2]))
              go_ret
              exact ⟨rfl, hb1H.out.trans (((Below.refl _ _).alloc (Nat.le_refl _) _).mono hb1H.out.size)⟩
            | true =>
              go_enter Tryz.func196, Tryz.ntmps196
              go_wp2_with (first
                | (go_at_call 148; refine hst.out.mono ?_; rintro e w1 ⟨rfl, hb1⟩; have ef1 : w1.cell? ⟨q, 0, none⟩ = some (.pointer (some ⟨fp, 0, none⟩)) := (hb1.cell hql).trans kf.out; have hq1 := Nat.lt_of_lt_of_le hql hb1.size; have hb1H := Lib.hid hb1; clear hb1)
                | (go_at_call 205; refine (hm.out _ _ (hb1H.out.trans (((Below.refl _ _).alloc (Nat.le_refl _) _).mono hb1H.out.size))).mono ?_; rintro e w2 ⟨rfl, rfl⟩; first | rw [hm4] | rw [hm2]))
              go_ret
              exact ⟨rfl, hb1H.out.trans (((Below.refl _ _).alloc (Nat.le_refl _) _).mono hb1H.out.size)⟩
        | false =>
          obtain ⟨a1, b1⟩ := flg_false h1
          clear h1
          cases hm2 : MayM K.fs ino 2 with
          | false =>
            go_enter Tryz.func196, Tryz.ntmps196
            go_wp2_with (first
              | (go_at_call 148; refine hst.out.mono ?_; rintro e w1 ⟨rfl, hb1⟩; have ef1 : w1.cell? ⟨q, 0, none⟩ = some (.pointer (some ⟨fp, 0, none⟩)) := (hb1.cell hql).trans kf.out; have hq1 := Nat.lt_of_lt_of_le hql hb1.size; have hb1H := Lib.hid hb1; clear hb1)
              | (go_at_call 205; refine (hm.out _ _ (hb1H.out.trans (((Below.refl _ _).alloc (Nat.le_refl _) _).mono hb1H.out.size))).mono ?_; rintro e w2 ⟨rfl, rfl⟩; first | rw [hm4] | rw [hm2]))
            go_ret
            exact ⟨rfl, hb1H.out.trans (((Below.refl _ _).alloc (Nat.le_refl _) _).mono hb1H.out.size)⟩
          | true =>
            go_enter Tryz.func196, Tryz.ntmps196
            go_wp2_with (first
              | (go_at_call 148; refine hst.out.mono ?_; rintro e w1 ⟨rfl, hb1⟩; have ef1 : w1.cell? ⟨q, 0, none⟩ = some (.pointer (some ⟨fp, 0, none⟩)) := (hb1.cell hql).trans kf.out; have hq1 := Nat.lt_of_lt_of_le hql hb1.size; have hb1H := Lib.hid hb1; clear hb1)
              | (go_at_call 205; refine (hm.out _ _ (hb1H.out.trans (((Below.refl _ _).alloc (Nat.le_refl _) _).mono hb1H.out.size))).mono ?_; rintro e w2 ⟨rfl, rfl⟩; first | rw [hm4] | rw [hm2]))
            go_ret
            exact ⟨rfl, hb1H.out.trans (((Below.refl _ _).alloc (Nat.le_refl _) _).mono hb1H.out.size)⟩
      | false =>
        obtain ⟨a2, b2⟩ := flg_false h2
        clear h2
        cases h1 : flg flags 1 with
        | true =>
          obtain ⟨a1, b1⟩ := flg_true h1
          clear h1
          cases hm4 : MayM K.fs ino 4 with
          | false =>
            go_enter Tryz.func196, Tryz.ntmps196
            go_wp2_with (first
              | (go_at_call 148; refine hst.out.mono ?_; rintro e w1 ⟨rfl, hb1⟩; have ef1 : w1.cell? ⟨q, 0, none⟩ = some (.pointer (some ⟨fp, 0, none⟩)) := (hb1.cell hql).trans kf.out; have hq1 := Nat.lt_of_lt_of_le hql hb1.size; have hb1H := Lib.hid hb1; clear hb1)
              | (go_at_call 205; refine (hm.out _ _ (hb1H.out.trans (((Below.refl _ _).alloc (Nat.le_refl _) _).mono hb1H.out.size))).mono ?_; rintro e w2 ⟨rfl, rfl⟩; first | rw [hm4] | rw [hm2]))
            go_ret
            exact ⟨rfl, hb1H.out.trans (((Below.refl _ _).alloc (Nat.le_refl _) _).mono hb1H.out.size)⟩
          | true =>
            go_enter Tryz.func196, Tryz.ntmps196
            go_wp2_with (first
              | (go_at_call 148; refine hst.out.mono ?_; rintro e w1 ⟨rfl, hb1⟩; have ef1 : w1.cell? ⟨q, 0, none⟩ = some (.pointer (some ⟨fp, 0, none⟩)) := (hb1.cell hql).trans kf.out; have hq1 := Nat.lt_of_lt_of_le hql hb1.size; have hb1H := Lib.hid hb1; clear hb1)
              | (go_at_call 205; refine (hm.out _ _ (hb1H.out.trans (((Below.refl _ _).alloc (Nat.le_refl _) _).mono hb1H.out.size))).mono ?_; rintro e w2 ⟨rfl, rfl⟩; first | rw [hm4] | rw [hm2]))
            go_ret
            exact ⟨rfl, hb1H.out.trans (((Below.refl _ _).alloc (Nat.le_refl _) _).mono hb1H.out.size)⟩
        | false =>
          obtain ⟨a1, b1⟩ := flg_false h1
          clear h1
          go_enter Tryz.func196, Tryz.ntmps196
          go_wp2_with (first
            | (go_at_call 148; refine hst.out.mono ?_; rintro e w1 ⟨rfl, hb1⟩; have ef1 : w1.cell? ⟨q, 0, none⟩ = some (.pointer (some ⟨fp, 0, none⟩)) := (hb1.cell hql).trans kf.out; have hq1 := Nat.lt_of_lt_of_le hql hb1.size; have hb1H := Lib.hid hb1; clear hb1)
            | (go_at_call 205; refine (hm.out _ _ (hb1H.out.trans (((Below.refl _ _).alloc (Nat.le_refl _) _).mono hb1H.out.size))).mono ?_; rintro e w2 ⟨rfl, rfl⟩; first | rw [hm4] | rw [hm2]))
          go_ret
          exact ⟨rfl, hb1H.out.trans (((Below.refl _ _).alloc (Nat.le_refl _) _).mono hb1H.out.size)⟩
end
end Go.Proofs.YtmilagppbepnbaaGreat.Kn
