/- The worker over form: a choice. Condition: it lies as stated; what stands deeper is read as stated. -/
import Derived.Test.YtjbmpockoicgmaaGreatFoP
namespace Go.Proofs.YtjbmpockoicgmaaGreat.F
open Go.RowKit Go.Shelf Go.PlainAid
set_option linter.unusedVariables false
set_option linter.unusedSimpArgs false
attribute [local go_sem] Oper.semAt_some

theorem enters_c : Enters Tryz.prog 33 := enters_of Tryz.func33 (by kernel_rfl) rfl
theorem enters_c1 : Enters Tryz.prog 52 := enters_of Tryz.func52 (by kernel_rfl) rfl
theorem enters_c2 : Enters Tryz.prog 55 := enters_of Tryz.func55 (by kernel_rfl) rfl
theorem cell_below {w W : World} {p i : Nat} {v : Value} (hb : Below w.heap.size w W) (h : w.cell? ⟨p, i, none⟩ = some v) : W.cell? ⟨p, i, none⟩ = some v := by
  have hp : p < w.heap.size := by
    apply Decidable.byContradiction
    intro hp
    unfold World.cell? at h
    rw [show w.heap[p]? = none from Array.getElem?_eq_none (by omega)] at h
    cases h
  exact (cell_of_blk (hb.block p hp) i).trans h
theorem Post.from_ {b G np : Nat} {S S1 : Nat → Prop} {w w1 : World} {r : I64 × Ws Nm} {e : Ending} {w' : World} (h : Post b G np S1 w1 r e w') (hF : Fr S w S1 w1) : Post b G np S w r e w' := by
  obtain ⟨h1, S', h2, h3⟩ := h
  exact ⟨h1, S', h2, hF.trans h3⟩

section
variable {b G np : Nat} {S : Nat → Prop} {w : World} {s : Ws Nm}
set_option maxRecDepth 100000 in
set_option maxHeartbeats 4000000 in
theorem choice1_w {f : Nat} (hCA : CA b G np f) (p1 p4 : Nat) (first : Bool) (h : At b G np S w s) (hD : D2 s) (hf : 6 * s.toks.length + 5 ≤ f) (hi : s.idle + s.toks.length + 1 ≤ 150000)
    (n1 : w.cell? ⟨p1, 0, none⟩ = some (ptr b)) (n4 : w.cell? ⟨p4, 0, none⟩ = some (.bool first)) :
    Calls Tryz.prog 52 #[ptr p1, ptr p4] w (Post b G np S w (asideM first (go NM f .asg) s)) := by
  have h49 := ld49
  have s49 := st49
  have hb0 := bAl w
  have m1 := cell_below hb0 n1
  have m4 := cell_below hb0 n4
  have h := h.below hb0
  clear n1 n4
  obtain ⟨w0, hw0⟩ : ∃ W, w.alloc o49 = W := ⟨_, rfl⟩
  rw [hw0] at hb0 m1 m4 h
  have hF0 := Lib.hid (Fr.of_below (S := S) hb0)
  have has := Lib.hid (aside_fn 21 #[ptr b] #[] first enters_a h hD hi (go NM f .asg) (go_leN f .asg) (fun W s' hA hF hL hdp hD2 _ => by
    have h9 := hCA S W s' hA hD2 (by omega)
    simpa using h9))
  have hmf : ∀ (fn : Fn) (first cap : Array Value) (w : World), (Instr.makeFunc fn first cap).run Tryz.prog w = .ok (.func fn first cap) w := fun _ _ _ _ => rfl
  clear hb0 h hD hf hi hCA
  go_enter Tryz.func52, Tryz.ntmps52
  go_wp2_with (go_at_call 53; refine has.out.mono ?_; rintro e w2 hP; obtain ⟨rfl, hP2⟩ := hP; have hPH := Lib.hid hP2; clear hP2)
  refine bodyPost_ret (results49 rfl _ _ rfl _) rfl ?_
  exact Post.from_ ⟨rfl, hPH.out⟩ hF0.out
set_option maxRecDepth 100000 in
set_option maxHeartbeats 4000000 in
theorem choice2_w {f : Nat} (hCC : CC b G np f) (p1 p4 : Nat) (first : Bool) (h : At b G np S w s) (hD : D2 s) (hf : 6 * s.toks.length + 4 ≤ f) (hi : s.idle + s.toks.length + 1 ≤ 150000)
    (n1 : w.cell? ⟨p1, 0, none⟩ = some (ptr b)) (n4 : w.cell? ⟨p4, 0, none⟩ = some (.bool first)) :
    Calls Tryz.prog 55 #[ptr p1, ptr p4] w (Post b G np S w (asideM (!first) (go NM f .cho) s)) := by
  have h49 := ld49
  have s49 := st49
  have hb0 := bAl w
  have m1 := cell_below hb0 n1
  have m4 := cell_below hb0 n4
  have h := h.below hb0
  clear n1 n4
  obtain ⟨w0, hw0⟩ : ∃ W, w.alloc o49 = W := ⟨_, rfl⟩
  rw [hw0] at hb0 m1 m4 h
  have hF0 := Lib.hid (Fr.of_below (S := S) hb0)
  have has := Lib.hid (aside_fn 33 #[ptr b] #[] (!first) enters_c h hD hi (go NM f .cho) (go_leN f .cho) (fun W s' hA hF hL hdp hD2 _ => by
    have h9 := hCC S W s' hA hD2 (by omega)
    simpa using h9))
  have hmf : ∀ (fn : Fn) (first cap : Array Value) (w : World), (Instr.makeFunc fn first cap).run Tryz.prog w = .ok (.func fn first cap) w := fun _ _ _ _ => rfl
  clear hb0 h hD hf hi hCC
  go_enter Tryz.func55, Tryz.ntmps55
  go_wp2_with (go_at_call 53; refine has.out.mono ?_; rintro e w2 hP; obtain ⟨rfl, hP2⟩ := hP; have hPH := Lib.hid hP2; clear hP2)
  refine bodyPost_ret (results49 rfl _ _ rfl _) rfl ?_
  exact Post.from_ ⟨rfl, hPH.out⟩ hF0.out

/-- What a choice is, with and without its sign. -/
theorem cho_no {f : Nat} (h : isM [63] (go NM f (.bin 3) s).2 = false) : go NM (f + 1) .cho s = go NM f (.bin 3) s := by show (if isM [63] (go NM f (.bin 3) s).2 then _ else go NM f (.bin 3) s) = _; rw [if_neg (by rw [h]; exact Bool.false_ne_true)]
def choY (f : Nat) (r : I64 × Ws Nm) : I64 × Ws Nm := deepM (asideM false (go NM f .asg)) (nextM r.2)
def choN (f : Nat) (r : I64 × Ws Nm) : I64 × Ws Nm := deepM (asideM (!false) (go NM f .cho)) (needM [58] (choY f r).2)
theorem cho_yes {f : Nat} (h : isM [63] (go NM f (.bin 3) s).2 = true) : go NM (f + 1) .cho s = (if false then (choY f (go NM f (.bin 3) s)).1 else (choN f (go NM f (.bin 3) s)).1, (choN f (go NM f (.bin 3) s)).2) := by show (if isM [63] (go NM f (.bin 3) s).2 then _ else go NM f (.bin 3) s) = _; rw [if_pos h]; rfl
theorem is_ne {s : Ws Nm} {l : List UInt8} (h : isM l s = true) : s.toks ≠ [] := fun e => by
  unfold isM peekM at h
  rw [e] at h
  cases h

set_option maxRecDepth 100000 in
set_option maxHeartbeats 8000000 in
theorem cho_w {f : Nat} (hCA : CA b G np f) (hCC : CC b G np f) (hCB : CB b G np f) : CC b G np (f + 1) := by
  intro S w s h hD hf
  have hok := h.ok
  have h49 := ld49
  have s49 := st49
  have hw1 : Below w.heap.size w ((w.alloc (.cells #[ptr b] 71)).alloc o49) := belAl (alB _ _) _
  obtain ⟨p, hp⟩ : ∃ p, w.heap.size = p := ⟨_, rfl⟩
  have hN := (newB w #[ptr b] (t := 71) p hp).alloc o49
  have hA1 := h.below hw1
  have hF1 := Fr.of_below (S := S) hw1
  have hnSp : ¬ S p := fun e => by obtain ⟨_, _, h9⟩ := h; have := h9.lt p e; omega
  obtain ⟨W1, hW1⟩ : ∃ W, (w.alloc (.cells #[ptr b] 71)).alloc o49 = W := ⟨_, rfl⟩
  rw [hW1] at hN hA1 hF1
  have hA1d : At b G np S W1.drew s := hA1.below ⟨rfl, rfl, rfl, Nat.le_refl _, fun _ _ => rfl⟩
  have hF1d := Lib.hid (hF1.trans (Fr.of_below (B := W1.drew) ⟨rfl, rfl, rfl, Nat.le_refl _, fun _ _ => rfl⟩))
  have n1 : W1.drew.cell? ⟨p, 0, none⟩ = some (ptr b) := hN.cell 0
  have hND : Hid (Blk W1.drew p 71 #[ptr b]) := Lib.hid hN
  have hb1H := Lib.hid (show Below W1.heap.size W1 W1.drew from ⟨rfl, rfl, rfl, Nat.le_refl _, fun _ _ => rfl⟩)
  have hb1aH := Lib.hid (show Below W1.heap.size W1 (W1.alloc o49).drew from (bAl W1).drew)
  have hbin := Lib.hid (fun (W : World) (hb : Below W1.heap.size W1 W) => hCB S W s 3 (by decide) (hA1.below hb) hD (by omega))
  have hF1H := Lib.hid hF1
  have hno := Lib.hid (cho_no (s := s) (f := f))
  have hyes := Lib.hid (cho_yes (s := s) (f := f))
  have hle := Lib.hid (go_leN f (.bin 3) s)
  obtain ⟨r, hr⟩ : ∃ r, go NM f (.bin 3) s = r := ⟨_, rfl⟩
  have hbin := Lib.hid (show ∀ W, Below W1.heap.size W1 W → Calls Tryz.prog 50 #[ptr b, .int .i64 3] W (Post b G np S W r) by rw [← hr]; exact hbin.out)
  rw [hr] at hno hyes hle
  have hW1H := Lib.hid hW1
  have hpH := Lib.hid hp
  have hnSpH := Lib.hid hnSp
  have hokH := Lib.hid hok
  have hDH := Lib.hid hD
  have hfH := Lib.hid hf
  have hCAH := Lib.hid hCA
  have hCCH := Lib.hid hCC
  clear h hw1 hp hN hA1 hF1 hnSp hW1 hA1d hok hD hf hCA hCC hCB hr
  have hmf : ∀ (fn : Fn) (first cap : Array Value) (w : World), (Instr.makeFunc fn first cap).run Tryz.prog w = .ok (.func fn first cap) w := fun _ _ _ _ => rfl
  have hrk : Hid (rankL (⟨#[124, 124]⟩ : ByteArray).toList = 3) := Lib.hid (by rw [Lib.toList_data]; decide)
  go_enter Tryz.func33, Tryz.ntmps33
  go_upto_region 1 with fail
  rw [hW1H.out, hpH.out]
  have hN1 : Hid (Blk W1 p 71 #[ptr b]) := Lib.hid hND.out
  have n1a : ∀ o, (W1.alloc o).drew.cell? ⟨p, 0, none⟩ = some (ptr b) := fun o => cell_below (alB W1 o).drew (hN1.out.cell 0)
  go_cut [3] (fun s3 wx => ∃ a3 : Addr, s3 = .pointer (some a3) ∧ Hid (∃ S4, At b G np S4 wx r.2 ∧ Fr S W1 S4 wx))
  case first =>
    go_region_held3 (fun Z => Z.cell? ⟨p, 0, none⟩ = some (ptr b)) (first | with_reducible exact n1 | with_reducible exact n4 | with_reducible exact n4a _ | with_reducible exact n1a _ | fail) ((first | (go_at_call 43; refine (rank_any _ _).mono ?_; rintro e w' ⟨rfl, rfl⟩; rw [hrk.out]) | (go_at_call 50; refine (hbin.out W1.drew hb1H.out).mono ?_; rintro e w4 ⟨rfl, S4, hA4, hF4⟩; have n4 : w4.cell? ⟨p, 0, none⟩ = some (ptr b) := (hF4.blk hND.out hnSpH.out).cell 0; have n4a : ∀ o, (w4.alloc o).cell? ⟨p, 0, none⟩ = some (ptr b) := fun o => cell_below (alB w4 o) n4; have hA4H := Lib.hid hA4; have hF4H := Lib.hid ((Fr.of_below (S := S) hb1H.out).trans hF4); clear hA4 hF4) | (go_at_call 50; refine (hbin.out (W1.alloc o49).drew hb1aH.out).mono ?_; rintro e w4 ⟨rfl, S4, hA4, hF4⟩; have n4 : w4.cell? ⟨p, 0, none⟩ = some (ptr b) := (hF4.blk (blk_beneath hN1.out hb1aH.out) hnSpH.out).cell 0; have hA4H := Lib.hid hA4; have hF4H := Lib.hid ((Fr.of_below (S := S) hb1aH.out).trans hF4); clear hA4 hF4) | fail))
    all_goals
      go_wp2_with fail
      go_meet
      case rel => first | exact ⟨_, rfl, Lib.hid ⟨S4, hA4H.out.al, Fr.al hF4H.out⟩⟩ | exact ⟨_, rfl, Lib.hid ⟨S4, hA4H.out, hF4H.out⟩⟩
  obtain ⟨a3, rfl, hC⟩ := hcut
  obtain ⟨w4, rfl⟩ : ∃ x : World, x = wc := ⟨_, rfl⟩
  obtain ⟨S4, hA4, hF4⟩ := hC.out
  have hA4H := Lib.hid hA4
  have hF4H := Lib.hid hF4
  have n4 : w4.cell? ⟨p, 0, none⟩ = some (ptr b) := (hF4.blk hN1.out hnSpH.out).cell 0
  clear hA4 hF4 hC n1a
  have h63 : Hid ((⟨#[63]⟩ : ByteArray).toList = [63]) := Lib.hid (by rw [Lib.toList_data])
  have h58 : Hid ((⟨#[58]⟩ : ByteArray).toList = [58]) := Lib.hid (by rw [Lib.toList_data])
  have hok4 : Ok cS r.2 := hokH.out.le hle.out
  have hD4 : D2 r.2 := hDH.out.le hle.out
  have hnp4 : ¬ S4 p := fun e => (hF4H.out.new p e).elim hnSpH.out (fun h9 => by have := hN1.out.lt; omega)
  have his := Lib.hid (is_any hA4H.out ⟨#[63]⟩)
  rw [h63.out] at his
  have hB4 : Hid (Blk w4 p 71 #[ptr b]) := Lib.hid (hF4H.out.blk hN1.out hnSpH.out)
  have hFw := Lib.hid (hF1H.out.trans hF4H.out)
  have hok4H := Lib.hid hok4
  have hD4H := Lib.hid hD4
  have hnp4H := Lib.hid hnp4
  clear hok4 hD4 hnp4 n1
  cases hI : isM [63] r.2
  · have hR := Lib.hid (hno.out hI)
    rw [hI] at his
    go_wp2_with (go_at_call 51; refine his.out.mono ?_; rintro e w5 ⟨rfl, hb5⟩)
    refine bodyPost_ret (results49 rfl _ _ rfl _) rfl ?_
    rw [hR.out]
    exact ⟨rfl, S4, hA4H.out.below hb5, hFw.out.trans (Fr.of_below hb5)⟩
  · have hR := Lib.hid (hyes.out hI)
    have hne := Lib.hid (is_ne hI)
    rw [hI] at his
    have hmt : ∀ w, (method 245 52 un "shyard/arith.truth").run Tryz.prog w = .ok (122, un) w := fun w => by kernel_rfl
    go_upto_region 5 with (first | (go_at_call 51; refine his.out.mono ?_; rintro e w5 ⟨rfl, hb5⟩; have hA5 := Lib.hid (hA4H.out.below hb5); have hF5 := Lib.hid (Fr.of_below (S := S4) hb5); have n5 : w5.cell? ⟨p, 0, none⟩ = some (ptr b) := (blk_beneath hB4.out hb5).cell 0; have hB5 := Lib.hid (blk_beneath hB4.out hb5); clear hb5) | (go_at_call 34; refine (next_any hA5.out).mono ?_; rintro e w6 ⟨rfl, hA6, hF6⟩; have n6 : w6.cell? ⟨p, 0, none⟩ = some (ptr b) := (hF6.blk hB5.out hnp4H.out).cell 0; have c6 : w6.cell? ⟨b, 0, none⟩ = some (mv np) := (by obtain ⟨_, _, h9⟩ := hA6; exact h9.blk.cell 0); have hA6H := Lib.hid hA6; have hF6H := Lib.hid hF6; have hB6 := Lib.hid (hF6.blk hB5.out hnp4H.out); clear hA6 hF6))
    have c6d : w6.drew.cell? ⟨b, 0, none⟩ = some (mv np) := c6
    have n6d : w6.drew.cell? ⟨p, 0, none⟩ = some (ptr b) := n6
    have hk6 := Lib.hid (show Blk (w6.alloc (.cells #[.bool false] 4)).drew w6.heap.size 4 #[.bool false] from newB w6 #[.bool false] (t := 4) _ rfl)
    have hb6d := Lib.hid (show Below w6.heap.size w6 w6.drew from ⟨rfl, rfl, rfl, Nat.le_refl _, fun _ _ => rfl⟩)
    have hb6a := Lib.hid (show Below w6.heap.size w6 (w6.alloc (.cells #[.bool false] 4)).drew from (alB w6 _).drew)
    have n6a : (w6.alloc (.cells #[.bool false] 4)).drew.cell? ⟨p, 0, none⟩ = some (ptr b) := cell_below hb6a.out n6
    have c6a : (w6.alloc (.cells #[.bool false] 4)).drew.cell? ⟨b, 0, none⟩ = some (mv np) := cell_below hb6a.out c6
    have hpq : p < w6.heap.size := by exact hB6.out.lt
    have hbq : b < w6.heap.size := by exact hA6H.out.size
    have hnpq : ¬ p = w6.heap.size := by omega
    have hnbq : ¬ b = w6.heap.size := by omega
    clear n6 c6
    go_cut [4] (fun s4 wx => ∃ q, s4 = ptr q ∧ Hid (w6.heap.size ≤ q ∧ Blk wx q 4 #[.bool false] ∧ Below w6.heap.size w6 wx))
    case first =>
      go_region_held3 (fun Z => Z.cell? ⟨p, 0, none⟩ = some (ptr b) ∧ Z.cell? ⟨b, 0, none⟩ = some (mv np)) (first | with_reducible exact ⟨n6d, c6d⟩ | with_reducible exact ⟨n6a, c6a⟩ | with_reducible exact ⟨n6t, c6t⟩ | with_reducible exact ⟨n6ta _, c6ta _⟩ | with_reducible exact ⟨n6ts _, c6ts _⟩ | fail) ((first | (go_at_call 122; refine (truth_f w6.drew).mono ?_; rintro e wt ⟨rfl, hbt⟩; have hb6t := hb6d.out.trans (hbt.mono (Nat.le_of_eq rfl)); have n6t : wt.cell? ⟨p, 0, none⟩ = some (ptr b) := cell_below hbt n6d; have c6t : wt.cell? ⟨b, 0, none⟩ = some (mv np) := cell_below hbt c6d; have n6ta : ∀ o, (wt.alloc o).cell? ⟨p, 0, none⟩ = some (ptr b) := fun o => cell_below (alB wt o) n6t; have c6ta : ∀ o, (wt.alloc o).cell? ⟨b, 0, none⟩ = some (mv np) := fun o => cell_below (alB wt o) c6t; have hbtH := Lib.hid hb6t; clear hb6t hbt) | (go_at_call 122; refine (truth_f (w6.alloc (.cells #[.bool false] 4)).drew).mono ?_; rintro e wt ⟨rfl, hbt⟩; have hkt := blk_beneath hk6.out hbt; have n6t : wt.cell? ⟨p, 0, none⟩ = some (ptr b) := cell_below hbt n6a; have c6t : wt.cell? ⟨b, 0, none⟩ = some (mv np) := cell_below hbt c6a; have n6ts : ∀ v, (wt.setCell ⟨w6.heap.size, 0, none⟩ v).cell? ⟨p, 0, none⟩ = some (ptr b) := fun v => (cell_of_blk (Below.heap_setCell _ _ _ _ hnpq) 0).trans n6t; have c6ts : ∀ v, (wt.setCell ⟨w6.heap.size, 0, none⟩ v).cell? ⟨b, 0, none⟩ = some (mv np) := fun v => (cell_of_blk (Below.heap_setCell _ _ _ _ hnbq) 0).trans c6t; have k0 := hkt.cell 0; have k1 := hkt.frozen 0; have hktH := Lib.hid hkt; have hbtH := Lib.hid (hb6a.out.trans (hbt.mono hb6a.out.size)); clear hkt hbt) | fail))
      all_goals
        go_wp2_with fail
        go_meet
        case rel => first | exact ⟨_, rfl, Lib.hid ⟨hbtH.out.size, newB wt _ _ rfl, hbtH.out.alloc hbtH.out.size _⟩⟩ | exact ⟨_, rfl, Lib.hid ⟨Nat.le_refl _, hktH.out.set_ 0 _, hbtH.out.trans ⟨rfl, rfl, rfl, by simp, fun k hk => Below.heap_setCell _ _ _ _ (fun e => by have e : k = w6.heap.size := e; omega)⟩⟩⟩
    obtain ⟨q, rfl, hC⟩ := hcut
    obtain ⟨W7, rfl⟩ : ∃ x : World, x = wc := ⟨_, rfl⟩
    obtain ⟨hqg, hT, hb7⟩ := hC.out
    have hA7 := hA6H.out.below hb7
    have hqS : ¬ S4 q := fun e => by have := hA6H.out; obtain ⟨_, _, h9⟩ := this; have := h9.lt q e; omega
    have hB7 := blk_beneath hB6.out hb7
    have n7 : W7.cell? ⟨p, 0, none⟩ = some (ptr b) := hB7.cell 0
    have q7 : W7.cell? ⟨q, 0, none⟩ = some (.bool false) := hT.cell 0
    have hFw7 := Lib.hid (((hFw.out.trans hF5.out).trans hF6H.out).trans (Fr.of_below (S := S4) hb7))
    have hok6 : Ok cS (nextM r.2) := hok4H.out.le (nextM_le cS _)
    have hD6 : D2 (nextM r.2) := hD4H.out.le (nextM_le cS _)
    have htl := tail_len hne.out
    have hd6 : (nextM r.2).deep ≤ 24 := by show r.2.deep ≤ 24; exact d2_le hok4H.out hD4H.out hne.out
    have hl6 : r.2.toks.length ≤ s.toks.length := hle.out.toks
    have hi6 : (nextM r.2).idle + (nextM r.2).toks.length + 1 ≤ 150000 := by have := hok4H.out.i1; show r.2.idle + _ + 1 ≤ 150000; omega
    have hfl : 6 * (nextM r.2).toks.length + 5 ≤ f := by have := hfH.out; omega
    have hdp := Lib.hid (deeper_fn 52 #[] #[ptr p, ptr q] enters_c1 hA7 hd6 (asideM false (go NM f .asg)) (fun s => asideM_le (go_leN f .asg) s) (fun S' W s' hA hF hL hdp hid hD2 => by
      have h9 := choice1_w hCAH.out p q false hA hD2 (by omega) (by omega) ((hF.blk hB7 hnp4H.out).cell 0) ((hF.blk hT hqS).cell 0)
      simpa using h9))
    have hY : Hid (choY f r = deepM (asideM false (go NM f .asg)) (nextM r.2)) := Lib.hid (rfl)
    have hN : Hid (choN f r = deepM (asideM (!false) (go NM f .cho)) (needM [58] (choY f r).2)) := Lib.hid (rfl)
    have hLY := Lib.hid (show Le cS (nextM r.2) (choY f r).2 from by rw [hY.out]; exact deepM_le (fun s => asideM_le (go_leN f .asg) s) _)
    rw [← hY.out] at hdp
    have hTH := Lib.hid hT
    have hB7H := Lib.hid hB7
    have hqSH := Lib.hid hqS
    have hok6H := Lib.hid hok6
    have hD6H := Lib.hid hD6
    have hd6H := Lib.hid hd6
    have hi6H := Lib.hid hi6
    have hflH := Lib.hid hfl
    clear hC hqg hpq hbq hnpq hnbq n6d c6d n6a c6a hT hb7 hA7 hqS hB7 hok6 hD6 hi6 hfl htl hd6 hl6 hmt n5 n4
    go_upto_region 7 with (go_at_call 36; refine hdp.out.mono ?_; rintro e w8 ⟨rfl, S8, hA8, hF8⟩; have n8 : w8.cell? ⟨p, 0, none⟩ = some (ptr b) := (hF8.blk hB7H.out hnp4H.out).cell 0; have hB8 := Lib.hid (hF8.blk hB7H.out hnp4H.out); have hT8 := Lib.hid (hF8.blk hTH.out hqSH.out); have hn8 : Hid (¬ S8 p ∧ ¬ S8 q) := Lib.hid ⟨fun e => (hF8.new p e).elim hnp4H.out (fun h9 => by have := hB7H.out.lt; omega), fun e => (hF8.new q e).elim hqSH.out (fun h9 => by have := hTH.out.lt; omega)⟩; have hA8H := Lib.hid hA8; have hF8H := Lib.hid hF8; clear hA8 hF8)
    have hA8H := Lib.hid hA8H.out.al
    have hF8H := Lib.hid (Fr.al hF8H.out)
    have hB8 := Lib.hid (hB8.out.alloc o49)
    have hT8 := Lib.hid (hT8.out.alloc o49)
    obtain ⟨w8, hw8⟩ : ∃ W, w8.alloc o49 = W := ⟨_, rfl⟩
    rw [hw8] at hA8H hF8H hB8 hT8 ⊢
    have n8 : w8.cell? ⟨p, 0, none⟩ = some (ptr b) := hB8.out.cell 0
    clear hw8
    go_upto_region 8 with (go_at_call 54; refine (need_any hA8H.out _).mono ?_; rintro e w9 ⟨rfl, hA9, hF9⟩; rw [h58.out] at hA9; have hA9H := Lib.hid hA9; have hF9H := Lib.hid hF9; have n9 : w9.cell? ⟨p, 0, none⟩ = some (ptr b) := (hF9.blk hB8.out hn8.out.1).cell 0; have hB9 := Lib.hid (hF9.blk hB8.out hn8.out.1); have hT9 := Lib.hid (hF9.blk hT8.out hn8.out.2); clear hA9 hF9)
    have hL9 : Le cS (nextM r.2) (needM [58] (choY f r).2) := hLY.out.trans (needM_le cS _ _)
    have hdp2 := Lib.hid (deeper_fn 55 #[] #[ptr p, ptr q] enters_c2 hA9H.out (by rw [hL9.deep]; exact hd6H.out) (asideM (!false) (go NM f .cho)) (fun s => asideM_le (go_leN f .cho) s) (fun S' W s' hA hF hL hdp hid hD2 => by
      have g1 := hL9.toks
      have g2 := hL9.idle
      have g3 := hi6H.out
      have g4 := hflH.out
      have h9 := choice2_w hCCH.out p q false hA hD2 (by omega) (by omega) ((hF.blk hB9.out hn8.out.1).cell 0) ((hF.blk hT9.out hn8.out.2).cell 0)
      simpa using h9))
    rw [← hN.out] at hdp2
    clear hL9
    go_upto_region 9 with (go_at_call 36; refine hdp2.out.mono ?_; rintro e w10 ⟨rfl, S10, hA10, hF10⟩; have q10 : w10.cell? ⟨q, 0, none⟩ = some (.bool false) := (hF10.blk hT9.out hn8.out.2).cell 0; have hA10H := Lib.hid hA10; have hF10H := Lib.hid hF10; clear hA10 hF10)
    have hA10H := Lib.hid hA10H.out.al
    have hF10H := Lib.hid (Fr.al hF10H.out)
    obtain ⟨w10, hw10⟩ : ∃ W, w10.alloc o49 = W := ⟨_, rfl⟩
    rw [hw10] at hA10H hF10H ⊢
    have q10 : w10.cell? ⟨q, 0, none⟩ = some (.bool false) := (hF10H.out.blk hT9.out hn8.out.2).cell 0
    clear hw10
    have hFz := Lib.hid (((hFw7.out.trans hF8H.out).trans hF9H.out).trans hF10H.out)
    go_wp2
    refine bodyPost_ret (results49 rfl _ _ rfl _) rfl ?_
    rw [hR.out]
    exact ⟨rfl, S10, hA10H.out, hFz.out⟩
end
end Go.Proofs.YtjbmpockoicgmaaGreat.F
