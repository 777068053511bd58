/- The kernel: New. No condition. -/
import Derived.Test.YtmilagppbepnbaaGreatKgJ
import Derived.Test.YtmilagppbepnbaaGreatKgW
import Derived.Test.YtmilagppbepnbaaGreatKgQ
namespace Go.Proofs.YtmilagppbepnbaaGreat.Kn
open Go.RowKit Go.PlainAid
set_option linter.unusedVariables false
set_option linter.unusedSimpArgs false
attribute [local go_sem] Oper.semAt_some
def ker0 : Ker := ⟨newM, [], 0, [], 0, [], 0, ⟨#[]⟩, false, [], []⟩
def prc0 : Prc := ⟨1, 1, fun _ => Pp.Sl.none, 1, 18, false, 0⟩
def newKP : Nat → Ker × Prc
  | 0 => (setF (putR ker0 prc0) (HoldM newM 1).2, prc0)
  | k + 1 => (instM (newKP k).1 1 (newKP k).2 ⟨1, k, 0, 0, 0, none, ⟨#[]⟩⟩, { (newKP k).2 with tab := (tputM (newKP k).2.tab (((newKP k).1.lastD : Int) + 1) 0).2.2 })
theorem newKP_ask : ∀ k, ask (newKP k).1.procs 1 = some (newKP k).2
  | 0 => rfl
  | k + 1 => inst_ask (newKP_ask k) _
theorem newKP_last : ∀ k, (newKP k).1.lastD = k
  | 0 => rfl
  | k + 1 => by
    show (newKP k).1.lastD + 1 = k + 1
    rw [newKP_last k]
section
variable {w w1 w' : World} {B : Ix → Nat → Prop} {q : Nat} {K K' : Ker} {M : Mp} {c : Nat}
def mp0 (fp : Nat) : Mp := ⟨fun _ => 0, fun _ => 0, fun _ => 0, fun _ => 0, fp⟩
theorem nmb0 : Nmb ker0 := ⟨List.Pairwise.nil, List.Pairwise.nil, List.Pairwise.nil, (fun _ h => by cases h), (fun _ h => by cases h), (fun _ h => by cases h), (by decide), (by decide), (by decide)⟩
/-- The kernel's block has just been laid. -/
theorem new_ker {fp : Nat} (hF : FsP (fun _ => False) w w1 fp newM) :
    ∃ B, KerIs (w1.alloc (.cells #[.pointer (some ⟨fp, 0, none⟩), .slice none 0 0, .int .i64 0, .slice none 0 0, .int .i64 0, .slice none 0 0, .int .i64 0, .string ⟨#[]⟩, .bool false, .slice none 0 0, .slice none 0 0] 79)) B w1.heap.size ker0 (mp0 fp) ∧ (∀ g, AllX B g → w.heap.size ≤ g) ∧ Below w.heap.size w (w1.alloc (.cells #[.pointer (some ⟨fp, 0, none⟩), .slice none 0 0, .int .i64 0, .slice none 0 0, .int .i64 0, .slice none 0 0, .int .i64 0, .string ⟨#[]⟩, .bool false, .slice none 0 0, .slice none 0 0] 79)) := by
  obtain ⟨Bf, h1, h2, h3⟩ := hF
  obtain ⟨W, hW⟩ : ∃ W, w1.alloc (.cells #[.pointer (some ⟨fp, 0, none⟩), .slice none 0 0, .int .i64 0, .slice none 0 0, .int .i64 0, .slice none 0 0, .int .i64 0, .string ⟨#[]⟩, .bool false, .slice none 0 0, .slice none 0 0] 79) = W := ⟨_, rfl⟩
  have hb : Below w1.heap.size w1 W := by rw [← hW]; exact (Below.refl _ _).alloc (Nat.le_refl _) _
  have hK : Blk W w1.heap.size 79 #[.pointer (some ⟨fp, 0, none⟩), .slice none 0 0, .int .i64 0, .slice none 0 0, .int .i64 0, .slice none 0 0, .int .i64 0, .string ⟨#[]⟩, .bool false, .slice none 0 0, .slice none 0 0] := by rw [← hW]; exact Blk.new _ _ _
  rw [hW]
  have hs1 : w.heap.size ≤ w1.heap.size := h3.size
  have hfl : ∀ g, All Bf g → g < w1.heap.size := fun g ⟨i, hi⟩ => h1.lt i g hi
  have hfg : ∀ g, All Bf g → w.heap.size ≤ g := fun g hg => (h2 g hg).elim (fun h => h.elim) id
  refine ⟨fun i => match i with | .own => fun g => g = w1.heap.size | .fs => All Bf | _ => fun _ => False, ⟨fun i => ?_, fun i j g hi hj => ?_, fun i g hg => ?_, nmb0⟩, fun g ⟨i, hi⟩ => ?_, (h3.toBelow (fun _ h => h.elim) (Nat.le_refl _)).trans (hb.mono hs1)⟩
  · cases i with
    | own => exact ⟨_, _, _, _, _, hK, World.ownsRow_nil _ _ _ _, World.ownsRow_nil _ _ _ _, World.ownsRow_nil _ _ _ _, World.ownsRow_nil _ _ _ _, World.ownsRow_nil _ _ _ _, rfl, (fun _ h => by cases h), (fun _ h => by cases h), (fun _ h => by cases h), (fun _ h => by cases h), (fun _ h => by cases h), (fun _ h => by cases h)⟩
    | fs => exact ⟨Bf, h1.below hb, fun g hg => hg⟩
    | pipe n => intro s hk; cases hk
    | desc n => intro s hk; cases hk
    | proc n => intro s hk; cases hk
  · cases i <;> cases j <;> first | rfl | exact hi.elim | exact hj.elim | skip
    · have := hfl g hj; have : g = w1.heap.size := hi; omega
    · have := hfl g hi; have : g = w1.heap.size := hj; omega
  · have hK2 := hK.lt
    cases i with
    | own => have : g = w1.heap.size := hg; omega
    | fs => have := hfl g hg; have := hb.size; omega
    | pipe n => exact hg.elim
    | desc n => exact hg.elim
    | proc n => exact hg.elim
  · cases i with
    | own => have : g = w1.heap.size := hi; omega
    | fs => exact hfg g hi
    | pipe n => exact hi.elim
    | desc n => exact hi.elim
    | proc n => exact hi.elim
set_option maxRecDepth 100000 in
set_option maxHeartbeats 8000000 in
theorem new_k (w : World) : Calls Tryz.prog 11 #[] w fun e w' => ∃ q, e = .returned (.pointer (some ⟨q, 0, none⟩)) ∧ ∃ B M, KerIs w' B q (newKP 3).1 M ∧ (∀ g, AllX B g → w.heap.size ≤ g) ∧ Below w.heap.size w w' := by
  go_enter Tryz.func11, Tryz.ntmps11
  go_upto_region 2 with (go_at_call 27; refine (new_any w).mono ?_; rintro e w1 ⟨rfl, hF1⟩; have hF1H := Lib.hid hF1; clear hF1)
  obtain ⟨B2, hk2, hg2, hb2⟩ := new_ker hF1H.out
  obtain ⟨q, hq⟩ : ∃ q, w1.heap.size = q := ⟨_, rfl⟩
  obtain ⟨W2, hW2⟩ : ∃ W, w1.alloc (.cells #[.pointer (some ⟨w.heap.size, 0, none⟩), .slice none 0 0, .int .i64 0, .slice none 0 0, .int .i64 0, .slice none 0 0, .int .i64 0, .string ⟨#[]⟩, .bool false, .slice none 0 0, .slice none 0 0] 79) = W := ⟨_, rfl⟩
  rw [hW2] at hk2 hb2 ⊢
  rw [hq] at hk2 ⊢
  have hk2H := Lib.hid hk2
  have hg2H := Lib.hid hg2
  have hb2H := Lib.hid hb2
  clear hk2 hg2 hb2 hW2 hq hF1H
  go_upto_region 3 with (go_at_call 28; refine (Pp.tnew_any W2).mono ?_; rintro e w3 ⟨rfl, hT3, hb3⟩; have hT3H := Lib.hid hT3; have hb3H := Lib.hid hb3; clear hT3 hb3)
  obtain ⟨W4, hW4⟩ : ∃ W, w3.alloc (.cells #[.int .i64 1, .int .i64 1, .pointer (some ⟨W2.heap.size, 0, none⟩), .int .i64 1, .int .i64 18, .bool false, .int .i64 0] 84) = W := ⟨_, rfl⟩
  obtain ⟨tb, htb⟩ : ∃ tb, W2.heap.size = tb := ⟨_, rfl⟩
  obtain ⟨b, hbb⟩ : ∃ b, w3.heap.size = b := ⟨_, rfl⟩
  have hput : Hid (Calls Tryz.prog 29 #[.pointer (some ⟨q, 5, none⟩), .pointer (some ⟨b, 0, none⟩)] W4 fun e w' => e = .returned (.int .i64 1) ∧ ∃ B', KerIs w' B' q (putR ker0 prc0) (mpR (mp0 w.heap.size) ker0 b tb) ∧ (∀ g, AllX B' g → w.heap.size ≤ g) ∧ Below w.heap.size w w') := Lib.hid (by
    have hb4 : Below w3.heap.size w3 W4 := by rw [← hW4]; exact (Below.refl _ _).alloc (Nat.le_refl _) _
    have hP4 : Blk W4 b 84 #[.int .i64 1, .int .i64 1, .pointer (some ⟨tb, 0, none⟩), .int .i64 1, .int .i64 18, .bool false, .int .i64 0] := by rw [← hW4, ← hbb, ← htb]; exact Blk.new _ _ _
    have hT3 := hT3H.out
    have hb3 := hb3H.out
    rw [htb] at hT3
    have htl := hT3.lt
    have hT4 : Pp.TabAt W4 tb (fun _ => Pp.Sl.none) := hT3.keep (hb4.block _ htl)
    have hs3 := hb3.size
    have hs4 := hb4.size
    have hx : PrcAt W4 (fun g => g = b ∨ g = tb) b tb prc0 := ⟨hP4, hT4, .inl rfl, .inr rfl, by omega⟩
    have hb24 : Below W2.heap.size W2 W4 := hb3.trans (hb4.mono hs3)
    have hk4 := hk2H.out.below hb24
    have hbl := hP4.lt
    have hp := putR_any hk4 (S := fun g => g = b ∨ g = tb) hx (fun j g hj hg => by have := hk2H.out.lt j g hj; omega) (fun g hg => by rcases hg with e | e <;> omega) (by decide)
    refine hp.mono fun e w' ⟨he, B', h1, h2, h3, _⟩ => ⟨he, B', h1, fun g hg => ?_, ?_⟩
    · have hs2 := hb2H.out.size
      rcases h2 g hg with (h5 | h5) | h5
      · exact hg2H.out g h5
      · rcases h5 with e | e <;> omega
      · omega
    · have hs2 := hb2H.out.size
      exact ((hb2H.out.trans (hb24.mono hs2))).trans (h3.toBelow (fun g hg => hg2H.out g ⟨_, hg⟩) (by omega)))
  rw [hW4, htb, hbb]
  clear hW4 hbb htb hT3H hb3H hk2H hg2H hb2H
  go_upto_region 4 with (go_at_call 29; refine hput.out.mono ?_; rintro e w5 ⟨rfl, B5, hk5, hg5, hb5⟩; have hk5H := Lib.hid hk5; have hg5H := Lib.hid hg5; have hb5H := Lib.hid hb5; clear hk5 hg5 hb5)
  obtain ⟨xv, dv, rv, o1, o2, ho⟩ := hk5H.out.own
  obtain ⟨hPB, _⟩ : PrcAt w5 (B5 (.proc 1)) b tb prc0 := hk5H.out.part (.proc 1) prc0 rfl
  obtain ⟨fp, hfp⟩ : ∃ fp, w.heap.size = fp := ⟨_, rfl⟩
  have c0 : w5.cell? ⟨q, 0, none⟩ = some (.pointer (some ⟨fp, 0, none⟩)) := by rw [← hfp]; exact ho.blk.cell 0
  have c3 : w5.cell? ⟨b, 3, none⟩ = some (.int .i64 1) := hPB.cell 3
  have d0 : w5.drew.cell? ⟨q, 0, none⟩ = some (.pointer (some ⟨fp, 0, none⟩)) := c0
  have d3 : w5.drew.cell? ⟨b, 3, none⟩ = some (.int .i64 1) := c3
  have hk5d : KerIs w5.drew B5 q (putR ker0 prc0) (mpR (mp0 w.heap.size) ker0 b tb) := hk5H.out.keep (Nat.le_refl _) (fun _ _ _ => rfl)
  have hho : Hid (Calls Tryz.prog 30 #[.pointer (some ⟨fp, 0, none⟩), .int .i64 1] w5.drew fun e w' => e = .returned (.int .i64 (HoldM newM 1).1) ∧ KP (AllX B5) w5.drew (putR ker0 prc0) (mpR (mp0 w.heap.size) ker0 b tb) w' q (newKP 0).1) := Lib.hid (by
    have := fHold_any hk5d (c := 0) new_wf (by omega) 1
    rw [← hfp]
    exact this)
  have hsee : Hid (∀ W, KP (AllX B5) w5.drew (putR ker0 prc0) (mpR (mp0 w.heap.size) ker0 b tb) W q (newKP 0).1 → W.cell? ⟨q, 0, none⟩ = some (.pointer (some ⟨fp, 0, none⟩)) ∧ W.cell? ⟨b, 3, none⟩ = some (.int .i64 1)) := Lib.hid (fun W hW => by
    obtain ⟨e1, e2⟩ := kp_see hW (n := 1) (Nat.le_refl _) (newKP_ask 0)
    rw [← hfp]
    exact ⟨e1, e2.cell 3⟩)
  clear ho hPB hk5d hput
  go_region_held3 (fun Z => Z.cell? ⟨q, 0, none⟩ = some (.pointer (some ⟨fp, 0, none⟩)) ∧ Z.cell? ⟨b, 3, none⟩ = some (.int .i64 1)) (first | exact ⟨c0, c3⟩ | exact ⟨d0, d3⟩ | exact hsee.out _ hk6H.out | go_keep | fail)
    ((first | (go_at_call 30; refine hho.out.mono ?_; rintro e w6 ⟨rfl, hk6⟩; have hk6H := Lib.hid hk6; clear hk6) | fail))
  all_goals
    clear c0 c3 d0 d3 hho hsee
    go_wp2_with fail
    go_loopw [24] (fun s24 wr => ∃ k : Nat, k ≤ 3 ∧ s24 = .int .i64 k ∧ Hid (KP (AllX B5) w5.drew (putR ker0 prc0) (mpR (mp0 w.heap.size) ker0 b tb) wr q (newKP k).1)) (fun s24 _ => 3 - (intOf s24).toNat)
    case atStart => exact ⟨0, by omega, rfl, hk6H⟩
    case round =>
      obtain ⟨k, hk, rfl, hkp⟩ := hrel
      by_cases hk3 : k < 3
      · have hin : Hid (Calls Tryz.prog 31 #[.pointer (some ⟨q, 0, none⟩), .pointer (some ⟨b, 0, none⟩), .pointer (some ⟨wr.heap.size, 0, none⟩)] (wr.alloc (.cells #[.int .i64 1, .int .i64 k, .int .i64 0, .int .i64 0, .int .i64 0, .pointer none, .string ⟨#[]⟩] 91)) fun e w' => (∃ v, e = .returned (.int .i64 v)) ∧ KP (AllX B5) w5.drew (putR ker0 prc0) (mpR (mp0 w.heap.size) ker0 b tb) w' q (newKP (k + 1)).1) := Lib.hid (by
          obtain ⟨B6, M6, k1, k2, k3, k4, k5, k6, k7⟩ := hkp.out
          have hM : M6.br 1 = b := (k2.br 1 (Nat.le_refl _)).trans rfl
          have := inst_new k1 (newKP_ask k) ⟨1, k, 0, 0, 0, none, ⟨#[]⟩⟩ (by rw [newKP_last]; omega) (.pointer none) rfl wr (Below.refl _ _)
          rw [hM] at this
          exact this.mono fun e w' ⟨he, hp⟩ => ⟨⟨_, he⟩, KP.trans k6 k7 k2 k3 k4 k5 hp⟩)
        have hk3' : (k : Int) < 3 := by omega
        go_wp2_with (go_at_call 31; refine hin.out.mono ?_; rintro e w7 ⟨⟨v, rfl⟩, hk7⟩; have hk7H := Lib.hid hk7; clear hk7)
        go_roundw
        case rel => exact ⟨k + 1, by omega, by go_num, hk7H⟩
        case measure => simp [intOf]; omega
      · obtain rfl : k = 3 := by omega
        go_wp2_with fail
        go_ret
        obtain ⟨B6, M6, k1, k2, k3, k4, k5, k6, k7⟩ := hkp.out
        have hs5 := hb5H.out.size
        have hsd : w5.drew.heap.size = w5.heap.size := rfl
        refine ⟨q, rfl, B6, M6, k1, fun g hg => ?_, ?_⟩
        · rcases k6 g hg with h5 | h5
          · exact hg5H.out g h5
          · omega
        · exact (hb5H.out.drew).trans (k7.toBelow (fun g hg => hg5H.out g hg) (by omega))
end
end Go.Proofs.YtmilagppbepnbaaGreat.Kn
