/- The worker over form: an operand. Condition: it lies as stated; what stands deeper is read as stated. -/
import Derived.Test.YtjbmpockoicgmaaGreatFoO
import Derived.Deep.RegionHeld3
import Derived.Deep.QuietTactic
import Derived.BigQuiet
namespace Go.Proofs.YtjbmpockoicgmaaGreat.F
open Go.RowKit Go.Shelf Go.PlainAid
set_option linter.unusedVariables false
set_option linter.unusedSimpArgs false
attribute [local go_sem] Oper.semAt_some

theorem At.al {b G np : Nat} {S : Nat → Prop} {w : World} {s : Ws Nm} (h : At b G np S w s) : At b G np S (w.alloc o49) s := h.below (bAl w)
theorem Fr.al {S S' : Nat → Prop} {w W : World} (h : Fr S w S' W) : Fr S w S' (W.alloc o49) := h.trans (Fr.of_below (bAl W))
abbrev ptr (b : Nat) : Value := .pointer (some ⟨b, 0, none⟩)
/-- The contracts of the four functions, of so much fuel. -/
def CA (b G np f : Nat) : Prop := ∀ S w s, At b G np S w s → D2 s → 6 * s.toks.length + 5 ≤ f → Calls Tryz.prog 21 #[ptr b] w (Post b G np S w (go NM f .asg s))
def CC (b G np f : Nat) : Prop := ∀ S w s, At b G np S w s → D2 s → 6 * s.toks.length + 4 ≤ f → Calls Tryz.prog 33 #[ptr b] w (Post b G np S w (go NM f .cho s))
def CB (b G np f : Nat) : Prop := ∀ S w s (r : Nat), r ≤ 13 → At b G np S w s → D2 s → 6 * s.toks.length + 3 ≤ f → Calls Tryz.prog 50 #[ptr b, .int .i64 r] w (Post b G np S w (go NM f (.bin r) s))
def CO (b G np f : Nat) : Prop := ∀ S w s, At b G np S w s → D2 s → 6 * s.toks.length + 1 ≤ f → Calls Tryz.prog 65 #[ptr b] w (Post b G np S w (go NM f .opd s))
theorem cS_ok : ∀ m nm x, cS (NM.assign m nm x) ≤ cS m + 1 := fun m nm x => by show (0 : Nat) ≤ 0 + 1; omega
theorem go_leN (f : Nat) (lv : Lv I64) (s : Ws Nm) : Le cS s (go NM f lv s).2 := go_le cS NM cS_ok f lv s
theorem at_tok {b G np : Nat} {S : Nat → Prop} {w : World} {s : Ws Nm} (h : At b G np S w s) : (peekM s).text.size ≤ 100000 ∧ -9223372036854775808 ≤ (peekM s).num ∧ (peekM s).num ≤ 9223372036854775807 := by
  obtain ⟨a, c, h⟩ := h
  unfold peekM
  cases hl : s.toks with
  | nil => exact ⟨by decide, by decide, by decide⟩
  | cons t l => exact h.tk.2.2.1 t (by rw [hl]; exact List.mem_cons_self ..)
theorem tail_len {s : Ws Nm} (h : s.toks ≠ []) : (nextM s).toks.length + 1 = s.toks.length := by
  rw [nextM_toks]
  have : s.toks.length ≠ 0 := fun e => h (List.eq_nil_of_length_eq_zero e)
  omega
theorem toks_ne {s : Ws Nm} {c : UInt8} {l : List UInt8} (h : (peekM s).text.toList = c :: l) : s.toks ≠ [] := fun e => by
  unfold peekM at h
  rw [e] at h
  have : (tk0.text.toList : List UInt8) = [] := by rw [Lib.toList_data]; rfl
  rw [show ([] : List Tk).headD tk0 = tk0 from rfl, this] at h
  cases h
theorem enters_a : Enters Tryz.prog 21 := enters_of Tryz.func21 (by kernel_rfl) rfl
theorem enters_o : Enters Tryz.prog 65 := enters_of Tryz.func65 (by kernel_rfl) rfl
theorem d2_le {s : Ws Nm} (h : Ok cS s) (hD : D2 s) (hn : s.toks ≠ []) : s.deep ≤ 24 := by
  have := h.d1
  by_cases e : s.deep = 25
  · exact absurd (hD e) hn
  · omega

section
variable {b G np : Nat} {S : Nat → Prop} {w : World} {s : Ws Nm}
theorem opd_num {f : Nat} (h : (peekM s).kind = 1) : go NM (f + 1) .opd s = ((), nextM s) := by unfold go; dsimp only; rw [if_pos h]; try rfl
theorem opd_nam {f : Nat} (h : (peekM s).kind = 2) : go NM (f + 1) .opd s = valueM NM (peekM s).text (nextM s) := by unfold go; dsimp only; rw [if_neg (by rw [h]; decide), if_pos h]
theorem opd_par {f : Nat} (h1 : (peekM s).kind ≠ 1) (h2 : (peekM s).kind ≠ 2) (h : (peekM s).text.toList = [40]) : go NM (f + 1) .opd s = ((deepM (go NM f .asg) (nextM s)).1, needM [41] (deepM (go NM f .asg) (nextM s)).2) := by unfold go; dsimp only; rw [if_neg h1, if_neg h2, if_pos h]
theorem opd_pre {f : Nat} (h1 : (peekM s).kind ≠ 1) (h2 : (peekM s).kind ≠ 2) (h3 : (peekM s).text.toList ≠ [40]) (h : (peekM s).text.toList = [43] ∨ (peekM s).text.toList = [45] ∨ (peekM s).text.toList = [33] ∨ (peekM s).text.toList = [126]) :
    go NM (f + 1) .opd s = ((), (deepM (go NM f .opd) (nextM s)).2) := by unfold go; dsimp only; rw [if_neg h1, if_neg h2, if_neg h3, if_pos h]; try rfl
theorem opd_bad {f : Nat} (h1 : (peekM s).kind ≠ 1) (h2 : (peekM s).kind ≠ 2) (h3 : (peekM s).text.toList ≠ [40]) (h : ¬ ((peekM s).text.toList = [43] ∨ (peekM s).text.toList = [45] ∨ (peekM s).text.toList = [33] ∨ (peekM s).text.toList = [126])) :
    go NM (f + 1) .opd s = (zI, failM 60 (nextM s)) := by unfold go; dsimp only; rw [if_neg h1, if_neg h2, if_neg h3, if_neg h]; try rfl

set_option maxRecDepth 100000 in
set_option maxHeartbeats 8000000 in
theorem opd_w {f : Nat} (hCA : CA b G np f) (hCO : CO b G np f) : CO b G np (f + 1) := by
  intro S w s h hD hf
  have h49 := ld49
  have s49 := st49
  have hb0 := bAl w
  obtain ⟨w0, hw0⟩ : ∃ W, w.alloc o49 = W := ⟨_, rfl⟩
  rw [hw0] at hb0
  have hF0 := Lib.hid (Fr.of_below (S := S) hb0)
  have hnx := Lib.hid (next_any (h.below hb0))
  have htok := at_tok h
  have hok := h.ok
  have hlen := Lib.hid (fun e => tail_len (s := s) e)
  have h1 := Lib.hid (opd_num (s := s) (f := f))
  have h2 := Lib.hid (opd_nam (s := s) (f := f))
  have h3 := Lib.hid (opd_par (s := s) (f := f))
  have h4 := Lib.hid (opd_pre (s := s) (f := f))
  have h5 := Lib.hid (opd_bad (s := s) (f := f))
  have hle := Lib.hid (nextM_le cS s)
  have hDn := Lib.hid (D2.le hD hle.out)
  have hne := Lib.hid (show s.toks ≠ [] → s.deep ≤ 24 from fun e => d2_le hok hD e)
  have htn0 := Lib.hid (fun (c : UInt8) (l : List UInt8) (e : (peekM s).text.toList = c :: l) => toks_ne e)
  obtain ⟨t, ht⟩ : ∃ t, peekM s = t := ⟨_, rfl⟩
  obtain ⟨s1, hs1⟩ : ∃ s1, nextM s = s1 := ⟨_, rfl⟩
  rw [ht] at h1 h2 h3 h4 h5 htok hnx htn0
  rw [hs1] at h1 h2 h3 h4 h5 hlen hDn hle hnx
  obtain ⟨hts, htn⟩ := htok
  have htnH := Lib.hid htn
  have hfH := Lib.hid hf
  have hCAH := Lib.hid hCA
  have hCOH := Lib.hid hCO
  clear ht hs1 hok h hD hf hCA hCO htn
  go_enter Tryz.func65, Tryz.ntmps65
  go_upto_region 2 with (go_at_call 34; refine hnx.out.mono ?_; rintro e w2 ⟨rfl, hA2, hF2⟩; replace hF2 := hF0.out.trans hF2; dsimp only [tkV]; have hA2H := Lib.hid hA2; have hF2H := Lib.hid hF2; clear hA2 hF2)
  obtain ⟨q, hq⟩ : ∃ q, w2.heap.size = q := ⟨_, rfl⟩
  have hT := newB w2 #[.int .i64 t.kind, .string t.text, .int .i64 t.num] (t := 64) q hq
  have hb3 : Below w2.heap.size w2 (w2.alloc (.cells #[.int .i64 t.kind, .string t.text, .int .i64 t.num] 64)) := alB _ _
  obtain ⟨W3, hW3⟩ : ∃ W, w2.alloc (.cells #[.int .i64 t.kind, .string t.text, .int .i64 t.num] 64) = W := ⟨_, rfl⟩
  rw [hW3] at hT hb3 ⊢
  rw [hq]
  have hA3 := hA2H.out.below hb3
  have hF3 := Lib.hid (hF2H.out.trans (Fr.of_below (S := S) hb3))
  have hqS := Lib.hid (show ¬ S q from fun e => by have := hA2H.out; obtain ⟨_, _, h9⟩ := this; have := h9.lt q e; omega)
  have hbq : b < q := by rw [← hq]; exact hA2H.out.size
  have t0 : W3.cell? ⟨q, 0, none⟩ = some (.int .i64 t.kind) := hT.cell 0
  have t1 : W3.cell? ⟨q, 1, none⟩ = some (.string t.text) := hT.cell 1
  have t2 : W3.cell? ⟨q, 2, none⟩ = some (.int .i64 t.num) := hT.cell 2
  have c0 : W3.cell? ⟨b, 0, none⟩ = some (mv np) := by obtain ⟨_, _, h9⟩ := hA3; exact h9.blk.cell 0
  have hA3H := Lib.hid hA3
  have hTH := Lib.hid hT
  clear hT hb3 hA3 hq hW3 hA2H hF2H hnx
  have hmf : ∀ (fn : Fn) (first cap : Array Value) (w : World), (Instr.makeFunc fn first cap).run Tryz.prog w = .ok (.func fn first cap) w := fun _ _ _ _ => rfl
  cases k1 : ((t.kind : Int) == 1)
  rotate_left
  · have e1 : t.kind = 1 := by have := eq_of_beq k1; omega
    have hr := Lib.hid (h1.out e1)
    have hmt : ∀ w, (method 245 52 un "shyard/arith.number").run Tryz.prog w = .ok (121, un) w := fun w => by kernel_rfl
    clear e1
    have c0d : W3.drew.cell? ⟨b, 0, none⟩ = some (mv np) := c0
    have t2d : W3.drew.cell? ⟨q, 2, none⟩ = some (.int .i64 t.num) := t2
    have hA3d : Hid (At b G np S W3.drew s1) := Lib.hid (hA3H.out.below ⟨rfl, rfl, rfl, Nat.le_refl _, fun _ _ => rfl⟩)
    have hF3d : Hid (Fr S w S W3.drew) := Lib.hid (hF3.out.trans (Fr.of_below ⟨rfl, rfl, rfl, Nat.le_refl _, fun _ _ => rfl⟩))
    have hTd : Hid (Blk W3.drew q 64 #[.int .i64 t.kind, .string t.text, .int .i64 t.num]) := Lib.hid hTH.out
    go_wp2_with fail
    go_region_held3 (fun Z => Z.cell? ⟨b, 0, none⟩ = some (mv np) ∧ Z.cell? ⟨q, 2, none⟩ = some (.int .i64 t.num)) (first | with_reducible exact ⟨c0d, t2d⟩ | with_reducible exact ⟨c4, t4⟩ | fail) ((first | (go_at_call 121; refine (number_f _ _).mono ?_; rintro e w4 ⟨rfl, hb4⟩; have hA4 := hA3d.out.below hb4; have t4 : w4.cell? ⟨q, 2, none⟩ = some (.int .i64 t.num) := (blk_beneath hTd.out hb4).cell 2; have c4 : w4.cell? ⟨b, 0, none⟩ = some (mv np) := (by obtain ⟨_, _, h9⟩ := hA4; exact h9.blk.cell 0); have hA4H := Lib.hid hA4; have hF4H := Lib.hid (Fr.of_below (S := S) hb4); clear hA4 hb4) | fail))
    go_wp2
    refine bodyPost_ret (results49 rfl _ _ rfl _) rfl ?_
    rw [hr.out]
    exact ⟨rfl, S, hA4H.out, hF3d.out.trans hF4H.out⟩
  have n1 := Lib.hid (show t.kind ≠ 1 from fun e => by rw [e] at k1; cases k1)
  cases k2 : ((t.kind : Int) == 2)
  rotate_left
  · have e1 : t.kind = 2 := by have := eq_of_beq k2; omega
    have hr := Lib.hid (h2.out e1)
    have hz : t.text.size ≤ 9223372036854775807 := by omega
    clear e1
    go_wp2_with (go_at_call 35; refine (value_w hA3H.out t.text).mono ?_; rintro e w4 ⟨rfl, hA4, hF4⟩; have hA4H := Lib.hid hA4; have hF4H := Lib.hid hF4; clear hA4 hF4)
    refine bodyPost_ret (results49 rfl _ _ rfl _) rfl ?_
    rw [hr.out]
    exact ⟨rfl, S, hA4H.out, hF3.out.trans hF4H.out⟩
  have n2 := Lib.hid (show t.kind ≠ 2 from fun e => by rw [e] at k2; cases k2)
  cases p1 : (t.text.toList == [40])
  rotate_left
  · have hr := Lib.hid (h3.out n1.out n2.out (eq_of_beq p1))
    have hkk := htn0.out _ _ (eq_of_beq p1)
    have hfa := Lib.hid (go_leN f .asg)
    have hdp := Lib.hid (deeper_fn 21 #[ptr b] #[] enters_a hA3H.out (by have := hne.out hkk; have := hle.out.deep; omega) (go NM f .asg) (go_leN f .asg) (fun S' W s' hA hF hL hdp hid hD2 => by
      have h9 := hCAH.out S' W s' hA hD2 (by have := hlen.out hkk; have := hfH.out; omega)
      simpa using h9))
    go_wp2_with (first | (go_at_call 36; refine hdp.out.mono ?_; rintro e w4 ⟨rfl, S4, hA4, hF4⟩; have hA4H := Lib.hid hA4; have hF4H := Lib.hid hF4; clear hA4 hF4) | (go_at_call 54; refine (need_any hA4H.out.al _).mono ?_; rintro e w5 ⟨rfl, hA5, hF5⟩; have hA5H := Lib.hid hA5; have hF5H := Lib.hid hF5; clear hA5 hF5))
    refine bodyPost_ret (results49 rfl _ _ rfl _) rfl ?_
    rw [hr.out]
    refine ⟨rfl, S4, ?_, (hF3.out.trans (Fr.al hF4H.out)).trans hF5H.out⟩
    have h9 := hA5H.out
    rw [show (⟨#[41]⟩ : ByteArray).toList = [41] by rw [Lib.toList_data]] at h9
    exact h9
  have m1 := Lib.hid (ne_of_beq p1)
  by_cases hor : t.text.toList = [43] ∨ t.text.toList = [45] ∨ t.text.toList = [33] ∨ t.text.toList = [126]
  rotate_left
  · have hr := Lib.hid (h5.out n1.out n2.out m1.out hor)
    have p2 : (t.text.toList == [43]) = false := beq_eq_false_iff_ne.2 (fun e => hor (.inl e))
    have p3 : (t.text.toList == [45]) = false := beq_eq_false_iff_ne.2 (fun e => hor (.inr (.inl e)))
    have p4 : (t.text.toList == [33]) = false := beq_eq_false_iff_ne.2 (fun e => hor (.inr (.inr (.inl e))))
    have p5 : (t.text.toList == [126]) = false := beq_eq_false_iff_ne.2 (fun e => hor (.inr (.inr (.inr e))))
    clear hor
    go_wp2_with (go_at_call 22; refine (fail_any hA3H.out _).mono ?_; rintro e w4 ⟨rfl, hA4, hF4⟩; have hA4H := Lib.hid hA4; have hF4H := Lib.hid hF4; clear hA4 hF4)
    refine bodyPost_ret (results49 rfl _ _ rfl _) rfl ?_
    rw [hr.out]
    exact ⟨rfl, S, hA4H.out.al, Fr.al (hF3.out.trans hF4H.out)⟩
  have hr := Lib.hid (h4.out n1.out n2.out m1.out hor)
  have hkk : s.toks ≠ [] := by rcases hor with e | e | e | e <;> exact htn0.out _ _ e
  have hA3d : At b G np S W3.drew s1 := hA3H.out.below ⟨rfl, rfl, rfl, Nat.le_refl _, fun _ _ => rfl⟩
  have hdp := Lib.hid (deeper_fn 65 #[ptr b] #[] enters_o hA3d (by have := hne.out hkk; have := hle.out.deep; omega) (go NM f .opd) (go_leN f .opd) (fun S' W s' hA hF hL hdp hid hD2 => by
    have h9 := hCOH.out S' W s' hA hD2 (by have := hlen.out hkk; have := hfH.out; omega)
    simpa using h9))
  have hF3d : Hid (Fr S w S W3.drew) := Lib.hid (hF3.out.trans (Fr.of_below ⟨rfl, rfl, rfl, Nat.le_refl _, fun _ _ => rfl⟩))
  have hTd : Hid (Blk W3.drew q 64 #[.int .i64 t.kind, .string t.text, .int .i64 t.num]) := Lib.hid hTH.out
  have c0d : W3.drew.cell? ⟨b, 0, none⟩ = some (mv np) := c0
  have t1d : W3.drew.cell? ⟨q, 1, none⟩ = some (.string t.text) := t1
  have hmt : ∀ w, (method 245 52 un "shyard/arith.ahead").run Tryz.prog w = .ok (118, un) w := fun w => by kernel_rfl
  have hnil : ∀ w, (nilAhead 245 52 un "shyard/arith.ahead").run Tryz.prog w = .ok (some false) w := fun w => by kernel_rfl
  obtain ⟨r, hrr⟩ : ∃ r, deepM (go NM f .opd) s1 = r := ⟨_, rfl⟩
  rw [hrr] at hdp hr
  clear hkk hrr hA3d
  have hq4 : (t.text.toList == [43]) = true ∨ ((t.text.toList == [43]) = false ∧ (t.text.toList == [45]) = true) ∨ ((t.text.toList == [43]) = false ∧ (t.text.toList == [45]) = false ∧ (t.text.toList == [33]) = true) ∨ ((t.text.toList == [43]) = false ∧ (t.text.toList == [45]) = false ∧ (t.text.toList == [33]) = false ∧ (t.text.toList == [126]) = true) := by
    rcases hor with e | e | e | e <;> rw [e] <;> decide
  clear hor
  rcases hq4 with p2 | ⟨p2, p3⟩ | ⟨p2, p3, p4⟩ | ⟨p2, p3, p4, p5⟩
  all_goals
    go_upto_region 11 with fail
    go_region_held3 (fun Z => Z.cell? ⟨b, 0, none⟩ = some (mv np) ∧ Z.cell? ⟨q, 1, none⟩ = some (.string t.text)) (first | with_reducible exact ⟨c0d, t1d⟩ | with_reducible exact ⟨c4, t4⟩ | with_reducible exact ⟨c5, t5⟩ | fail) ((first | (go_at_call 36; refine hdp.out.mono ?_; rintro e w4 ⟨rfl, S4, hA4, hF4⟩; have hT4 := Lib.hid (hF4.blk hTd.out hqS.out); have t4 : w4.cell? ⟨q, 1, none⟩ = some (.string t.text) := hT4.out.cell 1; have c4 : w4.cell? ⟨b, 0, none⟩ = some (mv np) := (by obtain ⟨_, _, h9⟩ := hA4; exact h9.blk.cell 0); have hA4H := Lib.hid hA4; have hF4H := Lib.hid hF4; clear hA4 hF4) | (go_at_call 118; refine (ahead_f _ _).mono ?_; rintro e w5 ⟨rfl, hb5⟩; have t5 : w5.cell? ⟨q, 1, none⟩ = some (.string t.text) := (blk_beneath hT4.out hb5).cell 1; have hA5 := hA4H.out.below hb5; have c5 : w5.cell? ⟨b, 0, none⟩ = some (mv np) := (by obtain ⟨_, _, h9⟩ := hA5; exact h9.blk.cell 0); have hA5H := Lib.hid hA5; have hF5H := Lib.hid (Fr.of_below (S := S4) hb5); clear hA5 hb5) | fail))
    go_wp2
    refine bodyPost_ret (results49 rfl _ _ rfl _) rfl ?_
    rw [hr.out]
    exact ⟨rfl, S4, hA5H.out, (hF3d.out.trans hF4H.out).trans hF5H.out⟩
end
end Go.Proofs.YtjbmpockoicgmaaGreat.F
