/- The worker over numbers: a choice. Condition: it lies as stated; what stands deeper is read as stated. -/
import Derived.Test.YtjbmpockoicgmaaGreatArP
namespace Go.Proofs.YtjbmpockoicgmaaGreat.I
open Go.RowKit Go.Shelf Go.PlainAid
set_option linter.unusedVariables false
set_option linter.unusedSimpArgs false
attribute [local go_sem] Oper.semAt_some

theorem enters_c : Enters Tryz.prog 27 := enters_of Tryz.func27 (by kernel_rfl) rfl
theorem enters_c1 : Enters Tryz.prog 45 := enters_of Tryz.func45 (by kernel_rfl) rfl
theorem enters_c2 : Enters Tryz.prog 48 := enters_of Tryz.func48 (by kernel_rfl) rfl
theorem Post.from_ {b G np : Nat} {S S1 : Nat → Prop} {w w1 : World} {r : I64 × Ws Nm} {e : Ending} {w' : World} (h : Post b G np S1 w1 r e w') (hF : Fr S w S1 w1) : Post b G np S w r e w' := by
  obtain ⟨h1, S', h2, h3⟩ := h
  exact ⟨h1, S', h2, hF.trans h3⟩

section
variable {b G np : Nat} {S : Nat → Prop} {w : World} {s : Ws Nm}
set_option maxRecDepth 100000 in
set_option maxHeartbeats 4000000 in
theorem choice1_w {f : Nat} (hCA : CA b G np f) (p1 p4 : Nat) (first : Bool) (h : At b G np S w s) (hD : D2 s) (hf : 6 * s.toks.length + 5 ≤ f) (hi : s.idle + s.toks.length + 1 ≤ 150000)
    (n1 : w.cell? ⟨p1, 0, none⟩ = some (ptr b)) (n4 : w.cell? ⟨p4, 0, none⟩ = some (.bool first)) :
    Calls Tryz.prog 45 #[ptr p1, ptr p4] w (Post b G np S w (asideM first (go NM f .asg) s)) := by
  have has := Lib.hid (aside_fn 18 #[ptr b] #[] first enters_a h hD hi (go NM f .asg) (go_leN f .asg) (fun W s' hA hF hL hdp hD2 _ => by
    have h9 := hCA S W s' hA hD2 (by omega)
    simpa using h9))
  have hmf : ∀ (fn : Fn) (first cap : Array Value) (w : World), (Instr.makeFunc fn first cap).run Tryz.prog w = .ok (.func fn first cap) w := fun _ _ _ _ => rfl
  clear h hD hf hi hCA
  go_enter Tryz.func45, Tryz.ntmps45
  go_wp2_with (go_at_call 46; refine has.out.mono ?_; rintro e w2 hP; obtain ⟨rfl, hP2⟩ := hP; have hPH := Lib.hid hP2; clear hP2)
  go_ret
  exact ⟨rfl, hPH.out⟩
set_option maxRecDepth 100000 in
set_option maxHeartbeats 4000000 in
theorem choice2_w {f : Nat} (hCC : CC b G np f) (p1 p4 : Nat) (first : Bool) (h : At b G np S w s) (hD : D2 s) (hf : 6 * s.toks.length + 4 ≤ f) (hi : s.idle + s.toks.length + 1 ≤ 150000)
    (n1 : w.cell? ⟨p1, 0, none⟩ = some (ptr b)) (n4 : w.cell? ⟨p4, 0, none⟩ = some (.bool first)) :
    Calls Tryz.prog 48 #[ptr p1, ptr p4] w (Post b G np S w (asideM (!first) (go NM f .cho) s)) := by
  have has := Lib.hid (aside_fn 27 #[ptr b] #[] (!first) enters_c h hD hi (go NM f .cho) (go_leN f .cho) (fun W s' hA hF hL hdp hD2 _ => by
    have h9 := hCC S W s' hA hD2 (by omega)
    simpa using h9))
  have hmf : ∀ (fn : Fn) (first cap : Array Value) (w : World), (Instr.makeFunc fn first cap).run Tryz.prog w = .ok (.func fn first cap) w := fun _ _ _ _ => rfl
  clear h hD hf hi hCC
  go_enter Tryz.func48, Tryz.ntmps48
  go_wp2_with (go_at_call 46; refine has.out.mono ?_; rintro e w2 hP; obtain ⟨rfl, hP2⟩ := hP; have hPH := Lib.hid hP2; clear hP2)
  go_ret
  exact ⟨rfl, hPH.out⟩

/-- What a choice is, with and without its sign. -/
theorem cho_no {f : Nat} (h : isM [63] (go NM f (.bin 3) s).2 = false) : go NM (f + 1) .cho s = go NM f (.bin 3) s := by show (if isM [63] (go NM f (.bin 3) s).2 then _ else go NM f (.bin 3) s) = _; rw [if_neg (by rw [h]; exact Bool.false_ne_true)]
def choY (f : Nat) (r : I64 × Ws Nm) : I64 × Ws Nm := deepM (asideM (r.1.1 != 0) (go NM f .asg)) (nextM r.2)
def choN (f : Nat) (r : I64 × Ws Nm) : I64 × Ws Nm := deepM (asideM (!(r.1.1 != 0)) (go NM f .cho)) (needM [58] (choY f r).2)
theorem cho_yes {f : Nat} (h : isM [63] (go NM f (.bin 3) s).2 = true) : go NM (f + 1) .cho s = (if ((go NM f (.bin 3) s).1.1 != 0) then (choY f (go NM f (.bin 3) s)).1 else (choN f (go NM f (.bin 3) s)).1, (choN f (go NM f (.bin 3) s)).2) := by show (if isM [63] (go NM f (.bin 3) s).2 then _ else go NM f (.bin 3) s) = _; rw [if_pos h]; rfl
theorem is_ne {s : Ws Nm} {l : List UInt8} (h : isM l s = true) : s.toks ≠ [] := fun e => by
  unfold isM peekM at h
  rw [e] at h
  cases h

set_option maxRecDepth 100000 in
set_option maxHeartbeats 8000000 in
theorem cho_w {f : Nat} (hCA : CA b G np f) (hCC : CC b G np f) (hCB : CB b G np f) : CC b G np (f + 1) := by
  intro S w s h hD hf
  have hok := h.ok
  have hw1 : Below w.heap.size w (w.alloc (.cells #[ptr b] 56)) := alB _ _
  obtain ⟨p, hp⟩ : ∃ p, w.heap.size = p := ⟨_, rfl⟩
  have hN := newB w #[ptr b] (t := 56) p hp
  have hA1 := h.below hw1
  have hF1 := Fr.of_below (S := S) hw1
  have hnSp : ¬ S p := fun e => by obtain ⟨_, _, h9⟩ := h; have := h9.lt p e; omega
  obtain ⟨W1, hW1⟩ : ∃ W, w.alloc (.cells #[ptr b] 56) = W := ⟨_, rfl⟩
  rw [hW1] at hN hA1 hF1
  have hA1d : At b G np S W1.drew s := hA1.below ⟨rfl, rfl, rfl, Nat.le_refl _, fun _ _ => rfl⟩
  have hF1d := Lib.hid (hF1.trans (Fr.of_below (B := W1.drew) ⟨rfl, rfl, rfl, Nat.le_refl _, fun _ _ => rfl⟩))
  have n1 : W1.drew.cell? ⟨p, 0, none⟩ = some (ptr b) := hN.cell 0
  have hND : Hid (Blk W1.drew p 56 #[ptr b]) := Lib.hid hN
  have hbin := Lib.hid (hCB S W1.drew s 3 (by decide) hA1d hD (by omega))
  have hno := Lib.hid (cho_no (s := s) (f := f))
  have hyes := Lib.hid (cho_yes (s := s) (f := f))
  have hle := Lib.hid (go_leN f (.bin 3) s)
  obtain ⟨r, hr⟩ : ∃ r, go NM f (.bin 3) s = r := ⟨_, rfl⟩
  rw [hr] at hbin hno hyes hle
  have hW1H := Lib.hid hW1
  have hpH := Lib.hid hp
  have hnSpH := Lib.hid hnSp
  have hokH := Lib.hid hok
  have hDH := Lib.hid hD
  have hfH := Lib.hid hf
  have hCAH := Lib.hid hCA
  have hCCH := Lib.hid hCC
  clear h hw1 hp hN hA1 hF1 hnSp hW1 hA1d hok hD hf hCA hCC hCB hr
  have hmf : ∀ (fn : Fn) (first cap : Array Value) (w : World), (Instr.makeFunc fn first cap).run Tryz.prog w = .ok (.func fn first cap) w := fun _ _ _ _ => rfl
  have hrk : Hid (rankL (⟨#[124, 124]⟩ : ByteArray).toList = 3) := Lib.hid (by rw [Lib.toList_data]; decide)
  go_enter Tryz.func27, Tryz.ntmps27
  go_upto_region 1 with fail
  rw [hW1H.out, hpH.out]
  go_region_held3 (fun Z => Z.cell? ⟨p, 0, none⟩ = some (ptr b)) (first | with_reducible exact n1 | with_reducible exact n4 | fail) ((first | (go_at_call 43; refine (rank_any _ _).mono ?_; rintro e w' ⟨rfl, rfl⟩; rw [hrk.out]) | (go_at_call 42; refine hbin.out.mono ?_; rintro e w4 ⟨rfl, S4, hA4, hF4⟩; have n4 : w4.cell? ⟨p, 0, none⟩ = some (ptr b) := (hF4.blk hND.out hnSpH.out).cell 0; have hA4H := Lib.hid hA4; have hF4H := Lib.hid hF4; clear hA4 hF4) | fail))
  have h63 : Hid ((⟨#[63]⟩ : ByteArray).toList = [63]) := Lib.hid (by rw [Lib.toList_data])
  have h58 : Hid ((⟨#[58]⟩ : ByteArray).toList = [58]) := Lib.hid (by rw [Lib.toList_data])
  have hok4 : Ok cS r.2 := hokH.out.le hle.out
  have hD4 : D2 r.2 := hDH.out.le hle.out
  have hnp4 : ¬ S4 p := fun e => (hF4H.out.new p e).elim hnSpH.out (fun h9 => by have := hND.out.lt; omega)
  have his := Lib.hid (is_any hA4H.out ⟨#[63]⟩)
  rw [h63.out] at his
  have hB4 : Hid (Blk w4 p 56 #[ptr b]) := Lib.hid (hF4H.out.blk hND.out hnSpH.out)
  have hFw := Lib.hid (hF1d.out.trans hF4H.out)
  have hok4H := Lib.hid hok4
  have hD4H := Lib.hid hD4
  have hnp4H := Lib.hid hnp4
  clear hok4 hD4 hnp4 n1
  cases hI : isM [63] r.2
  · have hR := Lib.hid (hno.out hI)
    rw [hI] at his
    go_wp2_with (go_at_call 44; refine his.out.mono ?_; rintro e w5 ⟨rfl, hb5⟩)
    go_ret
    rw [hR.out]
    exact ⟨rfl, S4, hA4H.out.below hb5, hFw.out.trans (Fr.of_below hb5)⟩
  · have hR := Lib.hid (hyes.out hI)
    have hne := Lib.hid (is_ne hI)
    rw [hI] at his
    have hmt : ∀ w, (method 245 41 (.pointer (some ⟨np, 0, none⟩)) "shyard/arith.truth").run Tryz.prog w = .ok (91, .pointer (some ⟨np, 0, none⟩)) w := fun w => by kernel_rfl
    go_upto_region 6 with (first | (go_at_call 44; refine his.out.mono ?_; rintro e w5 ⟨rfl, hb5⟩; have hA5 := Lib.hid (hA4H.out.below hb5); have hF5 := Lib.hid (Fr.of_below (S := S4) hb5); have n5 : w5.cell? ⟨p, 0, none⟩ = some (ptr b) := (blk_beneath hB4.out hb5).cell 0; have hB5 := Lib.hid (blk_beneath hB4.out hb5); clear hb5) | (go_at_call 28; refine (next_any hA5.out).mono ?_; rintro e w6 ⟨rfl, hA6, hF6⟩; have n6 : w6.cell? ⟨p, 0, none⟩ = some (ptr b) := (hF6.blk hB5.out hnp4H.out).cell 0; have c6 : w6.cell? ⟨b, 0, none⟩ = some (mv np) := (by obtain ⟨_, _, h9⟩ := hA6; exact h9.blk.cell 0); have hA6H := Lib.hid hA6; have hF6H := Lib.hid hF6; have hB6 := Lib.hid (hF6.blk hB5.out hnp4H.out); clear hA6 hF6) | (go_at_call 91; refine (truth_int _ _ _).mono ?_; rintro e w7 ⟨rfl, rfl⟩))
    obtain ⟨fst, hfst⟩ : ∃ fst, (r.1.1 != 0) = fst := ⟨_, rfl⟩
    rw [hfst]
    obtain ⟨q, hq⟩ : ∃ q, w6.heap.size = q := ⟨_, rfl⟩
    have hT := newB w6 #[.bool fst] (t := 4) q hq
    have hb7 : Below w6.heap.size w6 (w6.alloc (.cells #[.bool fst] 4)) := alB _ _
    obtain ⟨W7, hW7⟩ : ∃ W, w6.alloc (.cells #[.bool fst] 4) = W := ⟨_, rfl⟩
    rw [hW7] at hT hb7 ⊢
    rw [hq]
    have hA7 := hA6H.out.below hb7
    have hqS : ¬ S4 q := fun e => by have := hA6H.out; obtain ⟨_, _, h9⟩ := this; have := h9.lt q e; omega
    have hB7 := blk_beneath hB6.out hb7
    have n7 : W7.cell? ⟨p, 0, none⟩ = some (ptr b) := hB7.cell 0
    have q7 : W7.cell? ⟨q, 0, none⟩ = some (.bool fst) := hT.cell 0
    have hFw7 := Lib.hid (((hFw.out.trans hF5.out).trans hF6H.out).trans (Fr.of_below (S := S4) hb7))
    have hok6 : Ok cS (nextM r.2) := hok4H.out.le (nextM_le cS _)
    have hD6 : D2 (nextM r.2) := hD4H.out.le (nextM_le cS _)
    have htl := tail_len hne.out
    have hd6 : (nextM r.2).deep ≤ 24 := by show r.2.deep ≤ 24; exact d2_le hok4H.out hD4H.out hne.out
    have hl6 : r.2.toks.length ≤ s.toks.length := hle.out.toks
    have hi6 : (nextM r.2).idle + (nextM r.2).toks.length + 1 ≤ 150000 := by have := hok4H.out.i1; show r.2.idle + _ + 1 ≤ 150000; omega
    have hfl : 6 * (nextM r.2).toks.length + 5 ≤ f := by have := hfH.out; omega
    have hdp := Lib.hid (deeper_fn 45 #[] #[ptr p, ptr q] enters_c1 hA7 hd6 (asideM fst (go NM f .asg)) (fun s => asideM_le (go_leN f .asg) s) (fun S' W s' hA hF hL hdp hid hD2 => by
      have h9 := choice1_w hCAH.out p q fst hA hD2 (by omega) (by omega) ((hF.blk hB7 hnp4H.out).cell 0) ((hF.blk hT hqS).cell 0)
      simpa using h9))
    have hY : Hid (choY f r = deepM (asideM fst (go NM f .asg)) (nextM r.2)) := Lib.hid (by unfold choY; rw [hfst])
    have hN : Hid (choN f r = deepM (asideM (!fst) (go NM f .cho)) (needM [58] (choY f r).2)) := Lib.hid (by unfold choN; rw [hfst])
    have hLY := Lib.hid (show Le cS (nextM r.2) (choY f r).2 from by rw [hY.out]; exact deepM_le (fun s => asideM_le (go_leN f .asg) s) _)
    rw [← hY.out] at hdp
    rw [hfst] at hR
    have hTH := Lib.hid hT
    have hB7H := Lib.hid hB7
    have hqSH := Lib.hid hqS
    have hok6H := Lib.hid hok6
    have hD6H := Lib.hid hD6
    have hd6H := Lib.hid hd6
    have hi6H := Lib.hid hi6
    have hflH := Lib.hid hfl
    clear hfst hq hW7 hT hb7 hA7 hqS hB7 hok6 hD6 hi6 hfl htl hd6 hl6 n6 c6 hmt n5 n4
    go_upto_region 8 with (first | (go_at_call 47; refine (need_any hA8H.out _).mono ?_; rintro e w9 ⟨rfl, hA9, hF9⟩; rw [h58.out] at hA9; have hA9H := Lib.hid hA9; have hF9H := Lib.hid hF9; have n9 : w9.cell? ⟨p, 0, none⟩ = some (ptr b) := (hF9.blk hB8.out hn8.out.1).cell 0; have hB9 := Lib.hid (hF9.blk hB8.out hn8.out.1); have hT9 := Lib.hid (hF9.blk hT8.out hn8.out.2); clear hA9 hF9) | (go_at_call 30; refine hdp.out.mono ?_; rintro e w8 ⟨rfl, S8, hA8, hF8⟩; have n8 : w8.cell? ⟨p, 0, none⟩ = some (ptr b) := (hF8.blk hB7H.out hnp4H.out).cell 0; have hB8 := Lib.hid (hF8.blk hB7H.out hnp4H.out); have hT8 := Lib.hid (hF8.blk hTH.out hqSH.out); have hn8 : Hid (¬ S8 p ∧ ¬ S8 q) := Lib.hid ⟨fun e => (hF8.new p e).elim hnp4H.out (fun h9 => by have := hB7H.out.lt; omega), fun e => (hF8.new q e).elim hqSH.out (fun h9 => by have := hTH.out.lt; omega)⟩; have hA8H := Lib.hid hA8; have hF8H := Lib.hid hF8; clear hA8 hF8))
    have hL9 : Le cS (nextM r.2) (needM [58] (choY f r).2) := hLY.out.trans (needM_le cS _ _)
    have hdp2 := Lib.hid (deeper_fn 48 #[] #[ptr p, ptr q] enters_c2 hA9H.out (by rw [hL9.deep]; exact hd6H.out) (asideM (!fst) (go NM f .cho)) (fun s => asideM_le (go_leN f .cho) s) (fun S' W s' hA hF hL hdp hid hD2 => by
      have g1 := hL9.toks
      have g2 := hL9.idle
      have g3 := hi6H.out
      have g4 := hflH.out
      have h9 := choice2_w hCCH.out p q fst hA hD2 (by omega) (by omega) ((hF.blk hB9.out hn8.out.1).cell 0) ((hF.blk hT9.out hn8.out.2).cell 0)
      simpa using h9))
    rw [← hN.out] at hdp2
    clear hL9
    go_upto_region 9 with (go_at_call 30; refine hdp2.out.mono ?_; rintro e w10 ⟨rfl, S10, hA10, hF10⟩; have q10 : w10.cell? ⟨q, 0, none⟩ = some (.bool fst) := (hF10.blk hT9.out hn8.out.2).cell 0; have hA10H := Lib.hid hA10; have hF10H := Lib.hid hF10; clear hA10 hF10)
    have hFz := Lib.hid (((hFw7.out.trans hF8H.out).trans hF9H.out).trans hF10H.out)
    cases fst
    all_goals
      go_wp2
      go_ret
      rw [hR.out]
      exact ⟨rfl, S10, hA10H.out, hFz.out⟩
end
end Go.Proofs.YtjbmpockoicgmaaGreat.I
