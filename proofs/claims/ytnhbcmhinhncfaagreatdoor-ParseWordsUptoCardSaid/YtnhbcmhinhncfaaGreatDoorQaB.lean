/- need, is, took, newlines, depth, redirection, kept words. Condition: the parser lies as stated. -/
import Derived.Test.YtnhbcmhinhncfaaGreatDoorQaA
import Derived.Maps.AppendAt
namespace Go.Proofs.YtnhbcmhinhncfaaGreatDoor
open Go.RowKit Go.Shelf Go.PlainAid
set_option linter.unusedVariables false
set_option linter.unusedSimpArgs false
attribute [local go_sem] Oper.semAt_some
/-- What a call of the parser's answers: a value, the parser's state behind it; of what was there only its block may have turned. -/
def Ans (b : Nat) (s : ByteArray) (w : World) (v : Value) (st : PS) (e : Ending) (w' : World) : Prop := e = .returned v ∧ PAt b s w' st ∧ Fb b w w'
theorem fld2 (t : Tk) (w : World) : (Instr.field 58 (tkV t) 2).run Tryz.prog w = .ok (.int .i64 t.place) w := by kernel_rfl
theorem fld0 (t : Tk) (w : World) : (Instr.field 58 (tkV t) 0).run Tryz.prog w = .ok (.int .i64 t.kind) w := by kernel_rfl
theorem fld1 (t : Tk) (w : World) : (Instr.field 58 (tkV t) 1).run Tryz.prog w = .ok (.string t.text) w := by kernel_rfl
theorem PAt.put {b q : Nat} {s : ByteArray} {W : World} {st : PS} (h : PAt b s W st) (hz : Blk W q 58 Z5) (hq : b ≠ q) (h16 : 8 ≤ q) (a1 a2 a3 a4 a5 : Value) : PAt b s (put5 W q a1 a2 a3 a4 a5) st := by
  obtain ⟨a, c, h⟩ := h
  exact ⟨a, c, h.put5 hq h16 (fun g o e hne => not_zero h.tk hz hne g o e) a1 a2 a3 a4 a5⟩
section
variable {b : Nat} {s : ByteArray} {w : World} {st : PS}
theorem peek_ans (h : PAt b s w st) : Calls Tryz.prog 20 #[ptr b] w (Ans b s w (tkV (peekP s st)) (fill s st)) := peek_any h
theorem next_ans (h : PAt b s w st) : Calls Tryz.prog 27 #[ptr b] w (Ans b s w (tkV (peekP s st)) (nextP s st)) := next_any h
/-- A place for a token that is made ahead. -/
theorem at_new (h : PAt b s w st) : ∃ q, w.heap.size = q ∧ b ≠ q ∧ 8 ≤ q ∧ PAt b s (w.alloc (.cells Z5 58)) st ∧ Blk (w.alloc (.cells Z5 58)) q 58 Z5 ∧ Fb b w (w.alloc (.cells Z5 58)) := by
  refine ⟨_, rfl, ?_, ?_, h.below ((Below.refl _ _).alloc (Nat.le_refl _) _), Blk.new _ _ _, (Fb.refl b w).alloc _⟩
  · have := h.lt; omega
  · have := h.lt; obtain ⟨_, _, h⟩ := h; have := h.b16; omega
set_option maxRecDepth 100000 in
set_option maxHeartbeats 4000000 in
theorem need_any (h : PAt b s w st) (may : Bool) : Calls Tryz.prog 22 #[ptr b, .bool may] w (Ans b s w (tkV (needT s may st)) (needP s may st)) := by
  obtain ⟨q, hq, hbq, h16, hA0, hZ0, hF0⟩ := at_new h
  have hqb : q ≠ b := fun e => hbq e.symm
  have hqw : w.heap.size ≤ q := Nat.le_of_eq hq
  have hqH := Lib.hid hq
  have hA0H := Lib.hid hA0
  have hZ0H := Lib.hid hZ0
  have hF0H := Lib.hid hF0
  cases may
  · have hr := Lib.hid (show needP s false st = nextP s (failP (peekP s st).place 56 (fill s st)) from rfl)
    have hr2 := Lib.hid (show needT s false st = peekP s (failP (peekP s st).place 56 (fill s st)) from rfl)
    have hpk := Lib.hid (peek_ans hA0)
    have hok := Lib.hid h.ok
    obtain ⟨t, ht⟩ : ∃ t, peekP s st = t := ⟨_, rfl⟩
    rw [ht] at hpk hr hr2
    clear h hA0 hZ0 hF0 ht
    have hfl := fld2 t
    go_enter Tryz.func22, Tryz.ntmps22
    go_wp2_with fail
    go_wp2_with (first
      | (go_at_call 27; refine (next_ans hA3.out).mono ?_; rintro r w4 ⟨rfl, hP4, hF4⟩; have hA4 := Lib.hid hP4; have hF4H := Lib.hid (hF3H.out.trans hF4); have hZ4 := Lib.hid (hF4.blk hZ3.out hqb); clear hP4 hF4; have z0 : w4.cell? ⟨q, 0, none⟩ = some (.int .i64 0) := hZ4.out.cell 0; have z1 : w4.cell? ⟨q, 1, none⟩ = some (.string ⟨#[]⟩) := hZ4.out.cell 1; have z2 : w4.cell? ⟨q, 2, none⟩ = some (.int .i64 0) := hZ4.out.cell 2; have z3 : w4.cell? ⟨q, 3, none⟩ = some (.string ⟨#[]⟩) := hZ4.out.cell 3; have z4 : w4.cell? ⟨q, 4, none⟩ = some (.bool false) := hZ4.out.cell 4; have g0 := hZ4.out.frozen 0; have g1 := hZ4.out.frozen 1; have g2 := hZ4.out.frozen 2; have g3 := hZ4.out.frozen 3; have g4 := hZ4.out.frozen 4; dsimp only [tkV])
      | (go_at_call 29; refine (fail_any hA2.out _ _).mono ?_; rintro r w3 ⟨rfl, hP3, hF3⟩; have hA3 := Lib.hid hP3; have hF3H := Lib.hid (hF2H.out.trans hF3); have hZ3 := Lib.hid (hF3.blk hZ2.out hqb); clear hP3 hF3)
      | (go_at_call 20; refine hpk.out.mono ?_; rintro r w2 ⟨rfl, hP2, hF2⟩; have hA2 := Lib.hid hP2; have hF2H := Lib.hid (hF0H.out.trans hF2); have hZ2 := Lib.hid (hF2.blk hZ0H.out hqb); clear hP2 hF2; dsimp only [tkV]))
    refine bodyPost_ret (results_cell_row rfl _ _ q 58 (tkC (peekP s (failP t.place 56 (fill s st)))) (0, 0) _ rfl (put5_blk hZ4.out _ _ _ _ _) Tryz.underlying58 rfl (by kernel_rfl)) rfl ?_
    rw [hr.out, hr2.out]
    exact ⟨rfl, hA4.out.put hZ4.out hbq h16 _ _ _ _ _, put5_fb hF4H.out hqw _ _ _ _ _⟩
  · have hr := Lib.hid (show needP s true st = nextP s st from rfl)
    have hr2 := Lib.hid (show needT s true st = peekP s st from rfl)
    obtain ⟨t, ht⟩ : ∃ t, peekP s st = t := ⟨_, rfl⟩
    have hnx := Lib.hid (next_ans hA0)
    rw [ht] at hnx hr2
    clear h hA0 hZ0 hF0 ht
    go_enter Tryz.func22, Tryz.ntmps22
    go_wp2_with (go_at_call 27; refine hnx.out.mono ?_; rintro r w4 ⟨rfl, hP4, hF4⟩; have hA4 := Lib.hid hP4; have hF4H := Lib.hid (hF0H.out.trans hF4); have hZ4 := Lib.hid (hF4.blk hZ0H.out hqb); clear hP4 hF4; have z0 : w4.cell? ⟨q, 0, none⟩ = some (.int .i64 0) := hZ4.out.cell 0; have z1 : w4.cell? ⟨q, 1, none⟩ = some (.string ⟨#[]⟩) := hZ4.out.cell 1; have z2 : w4.cell? ⟨q, 2, none⟩ = some (.int .i64 0) := hZ4.out.cell 2; have z3 : w4.cell? ⟨q, 3, none⟩ = some (.string ⟨#[]⟩) := hZ4.out.cell 3; have z4 : w4.cell? ⟨q, 4, none⟩ = some (.bool false) := hZ4.out.cell 4; have g0 := hZ4.out.frozen 0; have g1 := hZ4.out.frozen 1; have g2 := hZ4.out.frozen 2; have g3 := hZ4.out.frozen 3; have g4 := hZ4.out.frozen 4; dsimp only [tkV])
    refine bodyPost_ret (results_cell_row rfl _ _ q 58 (tkC t) (0, 0) _ rfl (put5_blk hZ4.out _ _ _ _ _) Tryz.underlying58 rfl (by kernel_rfl)) rfl ?_
    rw [hr.out, hr2.out]
    exact ⟨rfl, hA4.out.put hZ4.out hbq h16 _ _ _ _ _, put5_fb hF4H.out hqw _ _ _ _ _⟩
set_option maxRecDepth 100000 in
set_option maxHeartbeats 2000000 in
theorem isOp_any (h : PAt b s w st) (op : ByteArray) : Calls Tryz.prog 61 #[ptr b, .string op] w (Ans b s w (.bool (hasO s op.toList st)) (fill s st)) := by
  have hpk := Lib.hid (peek_ans h)
  have hi := Lib.hid (show hasO s op.toList st = ((peekP s st).kind == 2 && (peekP s st).text.toList == op.toList) from rfl)
  obtain ⟨t, ht⟩ : ∃ t, peekP s st = t := ⟨_, rfl⟩
  rw [ht] at hpk hi
  clear ht h
  cases hk : (t.kind == 2)
  all_goals
    have hr := hi.out
    rw [hk] at hr
    have hrH := Lib.hid hr
    clear hr
    go_enter Tryz.func61, Tryz.ntmps61
    go_wp2_with (go_at_call 20; refine hpk.out.mono ?_; rintro e w2 ⟨rfl, hA2, hF2⟩; have hA2H := Lib.hid hA2; have hF2H := Lib.hid hF2; clear hA2 hF2; dsimp only [tkV])
    go_ret
    rw [hrH.out]
    exact ⟨rfl, hA2H.out.below ((Below.refl _ _).alloc (Nat.le_refl _) _), hF2H.out.alloc _⟩
set_option maxRecDepth 100000 in
set_option maxHeartbeats 2000000 in
theorem isWord_any (h : PAt b s w st) (op : ByteArray) : Calls Tryz.prog 76 #[ptr b, .string op] w (Ans b s w (.bool (hasW s op.toList st)) (fill s st)) := by
  have hpk := Lib.hid (peek_ans h)
  have hi := Lib.hid (show hasW s op.toList st = ((peekP s st).kind == 1 && (peekP s st).text.toList == op.toList) from rfl)
  obtain ⟨t, ht⟩ : ∃ t, peekP s st = t := ⟨_, rfl⟩
  rw [ht] at hpk hi
  clear ht h
  cases hk : (t.kind == 1)
  all_goals
    have hr := hi.out
    rw [hk] at hr
    have hrH := Lib.hid hr
    clear hr
    go_enter Tryz.func76, Tryz.ntmps76
    go_wp2_with (go_at_call 20; refine hpk.out.mono ?_; rintro e w2 ⟨rfl, hA2, hF2⟩; have hA2H := Lib.hid hA2; have hF2H := Lib.hid hF2; clear hA2 hF2; dsimp only [tkV])
    go_ret
    rw [hrH.out]
    exact ⟨rfl, hA2H.out.below ((Below.refl _ _).alloc (Nat.le_refl _) _), hF2H.out.alloc _⟩
set_option maxRecDepth 100000 in
set_option maxHeartbeats 2000000 in
theorem took_any (h : PAt b s w st) (op : ByteArray) : Calls Tryz.prog 45 #[ptr b, .string op] w (Ans b s w (.bool (hasO s op.toList st)) (tookP s 2 op.toList st)) := by
  have hi := Lib.hid (isOp_any h op)
  have hn := Lib.hid (next_fill h.ok)
  have hr := Lib.hid (show tookP s 2 op.toList st = if hasO s op.toList st then nextP s st else fill s st from rfl)
  clear h
  cases hb : hasO s op.toList st
  · rw [hb] at hi hr
    go_enter Tryz.func45, Tryz.ntmps45
    go_wp2_with (go_at_call 61; refine hi.out.mono ?_; rintro e w2 ⟨rfl, hA2, hF2⟩; have hA2H := Lib.hid hA2; have hF2H := Lib.hid hF2; clear hA2 hF2)
    go_ret
    rw [hr.out]
    exact ⟨rfl, hA2H.out, hF2H.out⟩
  · rw [hb] at hi hr
    go_enter Tryz.func45, Tryz.ntmps45
    go_wp2_with (first | (go_at_call 27; refine (next_ans hA2H.out).mono ?_; rintro e w3 ⟨rfl, hA3, hF3⟩; have hA3H := Lib.hid hA3; have hF3H := Lib.hid (hF2H.out.trans hF3); clear hA3 hF3) | (go_at_call 61; refine hi.out.mono ?_; rintro e w2 ⟨rfl, hA2, hF2⟩; have hA2H := Lib.hid hA2; have hF2H := Lib.hid hF2; clear hA2 hF2))
    go_ret
    have hA3 := hA3H.out
    rw [hn.out] at hA3
    rw [hr.out]
    exact ⟨rfl, hA3, hF3H.out⟩
set_option maxRecDepth 100000 in
set_option maxHeartbeats 2000000 in
theorem tookWord_any (h : PAt b s w st) (op : ByteArray) : Calls Tryz.prog 100 #[ptr b, .string op] w (Ans b s w (.bool (hasW s op.toList st)) (tookP s 1 op.toList st)) := by
  have hi := Lib.hid (isWord_any h op)
  have hn := Lib.hid (next_fill h.ok)
  have hr := Lib.hid (show tookP s 1 op.toList st = if hasW s op.toList st then nextP s st else fill s st from rfl)
  clear h
  cases hb : hasW s op.toList st
  · rw [hb] at hi hr
    go_enter Tryz.func100, Tryz.ntmps100
    go_wp2_with (go_at_call 76; refine hi.out.mono ?_; rintro e w2 ⟨rfl, hA2, hF2⟩; have hA2H := Lib.hid hA2; have hF2H := Lib.hid hF2; clear hA2 hF2)
    go_ret
    rw [hr.out]
    exact ⟨rfl, hA2H.out, hF2H.out⟩
  · rw [hb] at hi hr
    go_enter Tryz.func100, Tryz.ntmps100
    go_wp2_with (first | (go_at_call 27; refine (next_ans hA2H.out).mono ?_; rintro e w3 ⟨rfl, hA3, hF3⟩; have hA3H := Lib.hid hA3; have hF3H := Lib.hid (hF2H.out.trans hF3); clear hA3 hF3) | (go_at_call 76; refine hi.out.mono ?_; rintro e w2 ⟨rfl, hA2, hF2⟩; have hA2H := Lib.hid hA2; have hF2H := Lib.hid hF2; clear hA2 hF2))
    go_ret
    have hA3 := hA3H.out
    rw [hn.out] at hA3
    rw [hr.out]
    exact ⟨rfl, hA3, hF3H.out⟩
theorem need_fill (h : PW s st) (m : Bool) : needP s m (fill s st) = needP s m st ∧ needT s m (fill s st) = needT s m st := by
  cases m
  · constructor
    · show nextP s (failP (peekP s (fill s st)).place 56 (fill s (fill s st))) = nextP s (failP (peekP s st).place 56 (fill s st))
      rw [peek_fill h, fill_fill h]
    · show peekP s (failP (peekP s (fill s st)).place 56 (fill s (fill s st))) = peekP s (failP (peekP s st).place 56 (fill s st))
      rw [peek_fill h, fill_fill h]
  · exact ⟨next_fill h, peek_fill h⟩
set_option maxRecDepth 100000 in
set_option maxHeartbeats 2000000 in
theorem needWord_any (h : PAt b s w st) (op : ByteArray) : Calls Tryz.prog 101 #[ptr b, .string op] w (Ans b s w (.tuple #[]) (needP s (hasW s op.toList st) st)) := by
  have hi := Lib.hid (isWord_any h op)
  have hok := Lib.hid h.ok
  clear h
  obtain ⟨m, hm⟩ : ∃ m, hasW s op.toList st = m := ⟨_, rfl⟩
  rw [hm] at hi ⊢
  have hn := Lib.hid (need_fill hok.out m)
  clear hm
  go_enter Tryz.func101, Tryz.ntmps101
  go_wp2_with (first | (go_at_call 22; refine (need_any hA2H.out m).mono ?_; rintro e w3 ⟨rfl, hA3, hF3⟩; have hA3H := Lib.hid hA3; have hF3H := Lib.hid (hF2H.out.trans hF3); clear hA3 hF3) | (go_at_call 76; refine hi.out.mono ?_; rintro e w2 ⟨rfl, hA2, hF2⟩; have hA2H := Lib.hid hA2; have hF2H := Lib.hid hF2; clear hA2 hF2))
  go_end0
  have hA3 := hA3H.out
  rw [hn.out.1] at hA3
  exact ⟨rfl, hA3, hF3H.out⟩
end
end Go.Proofs.YtnhbcmhinhncfaaGreatDoor
/- newlines, the depth, redirections ahead, kept words, what ends a body. Condition: the parser lies as stated. -/
namespace Go.Proofs.YtnhbcmhinhncfaaGreatDoor
open Go.RowKit Go.Shelf Go.PlainAid
set_option linter.unusedVariables false
set_option linter.unusedSimpArgs false
attribute [local go_sem] Oper.semAt_some
section
variable {b : Nat} {s : ByteArray} {w : World} {st : PS}
theorem newlP_more : ∀ (f g : Nat) (st : PS), PW s st → rem s st < f → f ≤ g → newlP s g st = newlP s f st
  | 0, g, st, _, h, _ => by omega
  | f + 1, 0, st, _, _, h => by omega
  | f + 1, g + 1, st, h, hm, hg => by
    unfold newlP
    by_cases hk : (peekP s st).kind = 3
    · rw [if_pos hk, if_pos hk]
      have := rem_taken h (by rw [hk]; decide)
      exact newlP_more f g _ (pw_next h) (by omega) (by omega)
    · rw [if_neg hk, if_neg hk]
theorem newl_on (h : PW s st) (hk : (peekP s st).kind = 3) : newl s st = newl s (nextP s st) := by
  have := rem_taken h (by rw [hk]; decide)
  unfold newl
  conv => lhs; unfold newlP
  rw [if_pos hk]
  exact newlP_more _ _ _ (pw_next h) (Nat.lt_succ_self _) (by omega)
theorem newl_no (h : (peekP s st).kind ≠ 3) : newl s st = fill s st := by
  unfold newl newlP
  rw [if_neg h]
set_option maxRecDepth 100000 in
set_option maxHeartbeats 2000000 in
theorem newlines_any (h : PAt b s w st) : Calls Tryz.prog 19 #[ptr b] w (Ans b s w (.tuple #[]) (newl s st)) := by
  have hI0 := Lib.hid (show PAt b s w st ∧ newl s st = newl s st ∧ Fb b w w from ⟨h, rfl, Fb.refl _ _⟩)
  clear h
  go_enter Tryz.func19, Tryz.ntmps19
  go_wp2_with fail
  go_loopg [3] (rem s st) (fun g _ wr => ∃ st1 : PS, g = rem s st1 ∧ Hid (PAt b s wr st1 ∧ newl s st = newl s st1 ∧ Fb b w wr))
  case atStart => exact ⟨st, rfl, Lib.hid ⟨hI0.out.1, rfl, hI0.out.2.2⟩⟩
  case round =>
    obtain ⟨st1, hg, hI⟩ := hrel
    have hpk := Lib.hid (peek_ans hI.out.1)
    have hok := Lib.hid hI.out.1.ok
    have hnf := Lib.hid (next_fill hok.out)
    obtain ⟨t, ht⟩ : ∃ t, peekP s st1 = t := ⟨_, rfl⟩
    rw [ht] at hpk
    have htH := Lib.hid ht
    have hfl := fld0 t
    clear ht
    cases hk : (t.kind == 3)
    · have hn := Lib.hid (newl_no (s := s) (st := st1) (by rw [htH.out]; exact beq_eq_false_iff_ne.1 hk))
      go_wp2_with (go_at_call 20; refine hpk.out.mono ?_; rintro e w2 ⟨rfl, hA2, hF2⟩; have hA2H := Lib.hid hA2; have hF2H := Lib.hid (hI.out.2.2.trans hF2); clear hA2 hF2)
      go_end0
      rw [hI.out.2.1, hn.out]
      exact ⟨rfl, hA2H.out, hF2H.out⟩
    · have hk3 : (peekP s st1).kind = 3 := by rw [htH.out]; exact eq_of_beq hk
      have hn := Lib.hid (newl_on hok.out hk3)
      have hrm := Lib.hid (rem_taken hok.out (by rw [hk3]; decide))
      clear hk3
      go_wp2_with (first | (go_at_call 27; refine (next_ans hA2H.out).mono ?_; rintro e w3 ⟨rfl, hA3, hF3⟩; have hA3H := Lib.hid hA3; have hF3H := Lib.hid (hF2H.out.trans hF3); clear hA3 hF3) | (go_at_call 20; refine hpk.out.mono ?_; rintro e w2 ⟨rfl, hA2, hF2⟩; have hA2H := Lib.hid hA2; have hF2H := Lib.hid (hI.out.2.2.trans hF2); clear hA2 hF2))
      go_roundg (rem s (nextP s st1))
      case measure => rw [hg]; exact hrm.out
      case rel => exact ⟨nextP s st1, rfl, Lib.hid ⟨by have := hA3H.out; rw [hnf.out] at this; exact this, hI.out.2.1.trans hn.out, hF3H.out⟩⟩
set_option maxRecDepth 100000 in
set_option maxHeartbeats 2000000 in
theorem asksDepth_any (h : PAt b s w st) (d : Int) : Calls Tryz.prog 75 #[ptr b, .int .i64 d] w (Ans b s w (.tuple #[]) (askD s d st)) := by
  have hpk := Lib.hid (peek_ans h)
  have hr := Lib.hid (show askD s d st = if 24 < d then failP (peekP s st).place 52 (fill s st) else fill s st from rfl)
  obtain ⟨t, ht⟩ : ∃ t, peekP s st = t := ⟨_, rfl⟩
  rw [ht] at hpk hr
  clear ht h
  by_cases hd : 24 < d
  · have hr2 := Lib.hid (hr.out.trans (if_pos hd))
    clear hr
    go_enter Tryz.func75, Tryz.ntmps75
    go_upto_region 1 with (go_at_call 20; refine hpk.out.mono ?_; rintro e w2 ⟨rfl, hA2, hF2⟩; have hA2H := Lib.hid hA2; have hF2H := Lib.hid hF2; clear hA2 hF2; dsimp only [tkV])
    obtain ⟨q, hq⟩ : ∃ q, w2.heap.size = q := ⟨_, rfl⟩
    have hT := Blk.new w2 58 (tkC t)
    have hA3 := Lib.hid (hA2H.out.below ((Below.refl w2.heap.size w2).alloc (Nat.le_refl _) (.cells (tkC t) 58)))
    have hF3 := Lib.hid (hF2H.out.alloc (.cells (tkC t) 58))
    obtain ⟨W3, hW3⟩ : ∃ W, w2.alloc (.cells #[.int .i64 t.kind, .string t.text, .int .i64 t.place, .string t.doc, .bool t.raw] 58) = W := ⟨_, rfl⟩
    have hW3' : w2.alloc (.cells (tkC t) 58) = W3 := hW3
    rw [hW3'] at hT hA3 hF3
    rw [hq] at hT
    rw [hW3, hq]
    have t2 : W3.cell? ⟨q, 2, none⟩ = some (.int .i64 t.place) := hT.cell 2
    clear hW3 hW3' hT hq
    go_wp2_with (go_at_call 29; refine (fail_any hA3.out _ _).mono ?_; rintro e w4 ⟨rfl, hA4, hF4⟩; have hA4H := Lib.hid hA4; have hF4H := Lib.hid (hF3.out.trans hF4); clear hA4 hF4)
    go_end0
    rw [hr2.out]
    exact ⟨rfl, hA4H.out, hF4H.out⟩
  · have hr2 := Lib.hid (hr.out.trans (if_neg hd))
    clear hr
    go_enter Tryz.func75, Tryz.ntmps75
    go_wp2_with (go_at_call 20; refine hpk.out.mono ?_; rintro e w2 ⟨rfl, hA2, hF2⟩; have hA2H := Lib.hid hA2; have hF2H := Lib.hid hF2; clear hA2 hF2; dsimp only [tkV])
    go_end0
    rw [hr2.out]
    exact ⟨rfl, hA2H.out.below ((Below.refl _ _).alloc (Nat.le_refl _) _), hF2H.out.alloc _⟩
/-- The token at hand, if there is one, is a line's. -/
theorem peek_tk {w' : World} (h : PAt b s w' (fill s st)) (hk : (peekP s st).kind ≠ 0) : TkB (peekP s st) := by
  obtain ⟨a, c, h⟩ := h
  have hne := peek_none hk
  unfold peekP tokP
  cases hl : (fill s st).toks with
  | nil => exact absurd hl hne
  | cons t l => exact h.tk.tk t (by rw [hl]; exact List.mem_cons_self ..)
set_option maxRecDepth 100000 in
set_option maxHeartbeats 4000000 in
theorem isRedirection_any (h : PAt b s w st) : Calls Tryz.prog 106 #[ptr b] w (Ans b s w (.bool (redT (peekP s st))) (fill s st)) := by
  have hpk := Lib.hid (peek_ans h)
  have htk := Lib.hid (fun (w' : World) (hp : PAt b s w' (fill s st)) => peek_tk hp)
  have hr := Lib.hid (show redT (peekP s st) = ((peekP s st).kind == 4 || ((peekP s st).kind == 2 && (bt (peekP s st).text 0 == 60 || bt (peekP s st).text 0 == 62))) from rfl)
  obtain ⟨t, ht⟩ : ∃ t, peekP s st = t := ⟨_, rfl⟩
  rw [ht] at hpk hr htk ⊢
  clear ht h
  cases h4 : (t.kind == 4)
  · cases h2 : (t.kind == 2)
    · have hr2 := Lib.hid (show redT t = false by rw [hr.out, h4, h2]; rfl)
      clear hr
      go_enter Tryz.func106, Tryz.ntmps106
      go_wp2_with (go_at_call 20; refine hpk.out.mono ?_; rintro e w2 ⟨rfl, hA2, hF2⟩; have hA2H := Lib.hid hA2; have hF2H := Lib.hid hF2; clear hA2 hF2; dsimp only [tkV])
      go_ret
      rw [hr2.out]
      exact ⟨rfl, hA2H.out.below ((Below.refl _ _).alloc (Nat.le_refl _) _), hF2H.out.alloc _⟩
    · have hb := get_bt t.text
      cases h60 : (bt t.text 0 == 60) <;> cases h62 : (bt t.text 0 == 62)
      all_goals
        have hr2 := Lib.hid hr.out
        rw [h4, h2, h60, h62] at hr2
        have hr3 := Lib.hid hr2.out
        clear hr hr2
        go_enter Tryz.func106, Tryz.ntmps106
        go_wp2_with (go_at_call 20; refine hpk.out.mono ?_; rintro e w2 ⟨rfl, hA2, hF2⟩; have hA2H := Lib.hid hA2; have hF2H := Lib.hid hF2; have hpos := (htk.out w2 hA2 (by rw [eq_of_beq h2]; decide)).pos; clear hA2 hF2; dsimp only [tkV])
        go_ret
        rw [hr3.out]
        exact ⟨rfl, hA2H.out.below ((Below.refl _ _).alloc (Nat.le_refl _) _), hF2H.out.alloc _⟩
  · have hr2 := Lib.hid (show redT t = true by rw [hr.out, h4]; rfl)
    clear hr
    go_enter Tryz.func106, Tryz.ntmps106
    go_wp2_with (go_at_call 20; refine hpk.out.mono ?_; rintro e w2 ⟨rfl, hA2, hF2⟩; have hA2H := Lib.hid hA2; have hF2H := Lib.hid hF2; clear hA2 hF2; dsimp only [tkV])
    go_ret
    rw [hr2.out]
    exact ⟨rfl, hA2H.out.below ((Below.refl _ _).alloc (Nat.le_refl _) _), hF2H.out.alloc _⟩
set_option maxRecDepth 100000 in
set_option maxHeartbeats 4000000 in
theorem begW_any (t : ByteArray) (w : World) : Calls Tryz.prog 97 #[.string t] w fun e w' => e = .returned (.bool (begW t)) ∧ w = w' := by
  cases h0 : (t.toList == [33])
  rotate_left
  · have hr := Lib.hid (show begW t = true by unfold begW begL; simp only [List.any_cons, List.any_nil, h0, Bool.true_or, Bool.or_true, Bool.false_or])
    rw [hr.out]
    clear hr
    go_enter Tryz.func97, Tryz.ntmps97
    go_wp2
    go_ret
    exact ⟨rfl, rfl⟩
  cases h1 : (t.toList == [123])
  rotate_left
  · have hr := Lib.hid (show begW t = true by unfold begW begL; simp only [List.any_cons, List.any_nil, h0, h1, Bool.true_or, Bool.or_true, Bool.false_or])
    rw [hr.out]
    clear hr
    go_enter Tryz.func97, Tryz.ntmps97
    go_wp2
    go_ret
    exact ⟨rfl, rfl⟩
  cases h2 : (t.toList == [99, 97, 115, 101])
  rotate_left
  · have hr := Lib.hid (show begW t = true by unfold begW begL; simp only [List.any_cons, List.any_nil, h0, h1, h2, Bool.true_or, Bool.or_true, Bool.false_or])
    rw [hr.out]
    clear hr
    go_enter Tryz.func97, Tryz.ntmps97
    go_wp2
    go_ret
    exact ⟨rfl, rfl⟩
  cases h3 : (t.toList == [102, 111, 114])
  rotate_left
  · have hr := Lib.hid (show begW t = true by unfold begW begL; simp only [List.any_cons, List.any_nil, h0, h1, h2, h3, Bool.true_or, Bool.or_true, Bool.false_or])
    rw [hr.out]
    clear hr
    go_enter Tryz.func97, Tryz.ntmps97
    go_wp2
    go_ret
    exact ⟨rfl, rfl⟩
  cases h4 : (t.toList == [105, 102])
  rotate_left
  · have hr := Lib.hid (show begW t = true by unfold begW begL; simp only [List.any_cons, List.any_nil, h0, h1, h2, h3, h4, Bool.true_or, Bool.or_true, Bool.false_or])
    rw [hr.out]
    clear hr
    go_enter Tryz.func97, Tryz.ntmps97
    go_wp2
    go_ret
    exact ⟨rfl, rfl⟩
  cases h5 : (t.toList == [117, 110, 116, 105, 108])
  rotate_left
  · have hr := Lib.hid (show begW t = true by unfold begW begL; simp only [List.any_cons, List.any_nil, h0, h1, h2, h3, h4, h5, Bool.true_or, Bool.or_true, Bool.false_or])
    rw [hr.out]
    clear hr
    go_enter Tryz.func97, Tryz.ntmps97
    go_wp2
    go_ret
    exact ⟨rfl, rfl⟩
  cases h6 : (t.toList == [119, 104, 105, 108, 101])
  rotate_left
  · have hr := Lib.hid (show begW t = true by unfold begW begL; simp only [List.any_cons, List.any_nil, h0, h1, h2, h3, h4, h5, h6, Bool.true_or, Bool.or_true, Bool.false_or])
    rw [hr.out]
    clear hr
    go_enter Tryz.func97, Tryz.ntmps97
    go_wp2
    go_ret
    exact ⟨rfl, rfl⟩
  have hr := Lib.hid (show begW t = false by unfold begW begL; simp only [List.any_cons, List.any_nil, h0, h1, h2, h3, h4, h5, h6, Bool.or_false])
  rw [hr.out]
  clear hr
  go_enter Tryz.func97, Tryz.ntmps97
  go_wp2
  go_ret
  exact ⟨rfl, rfl⟩
set_option maxRecDepth 100000 in
set_option maxHeartbeats 4000000 in
theorem rsvW_any (t : ByteArray) (w : World) : Calls Tryz.prog 89 #[.string t] w fun e w' => e = .returned (.bool (rsvW t)) ∧ w = w' := by
  cases h0 : (t.toList == [125])
  rotate_left
  · have hr := Lib.hid (show rsvW t = true by unfold rsvW rsvL; simp only [List.any_cons, List.any_nil, h0, Bool.true_or, Bool.or_true, Bool.false_or])
    rw [hr.out]
    clear hr
    go_enter Tryz.func89, Tryz.ntmps89
    go_wp2
    go_ret
    exact ⟨rfl, rfl⟩
  cases h1 : (t.toList == [100, 111])
  rotate_left
  · have hr := Lib.hid (show rsvW t = true by unfold rsvW rsvL; simp only [List.any_cons, List.any_nil, h0, h1, Bool.true_or, Bool.or_true, Bool.false_or])
    rw [hr.out]
    clear hr
    go_enter Tryz.func89, Tryz.ntmps89
    go_wp2
    go_ret
    exact ⟨rfl, rfl⟩
  cases h2 : (t.toList == [100, 111, 110, 101])
  rotate_left
  · have hr := Lib.hid (show rsvW t = true by unfold rsvW rsvL; simp only [List.any_cons, List.any_nil, h0, h1, h2, Bool.true_or, Bool.or_true, Bool.false_or])
    rw [hr.out]
    clear hr
    go_enter Tryz.func89, Tryz.ntmps89
    go_wp2
    go_ret
    exact ⟨rfl, rfl⟩
  cases h3 : (t.toList == [101, 108, 105, 102])
  rotate_left
  · have hr := Lib.hid (show rsvW t = true by unfold rsvW rsvL; simp only [List.any_cons, List.any_nil, h0, h1, h2, h3, Bool.true_or, Bool.or_true, Bool.false_or])
    rw [hr.out]
    clear hr
    go_enter Tryz.func89, Tryz.ntmps89
    go_wp2
    go_ret
    exact ⟨rfl, rfl⟩
  cases h4 : (t.toList == [101, 108, 115, 101])
  rotate_left
  · have hr := Lib.hid (show rsvW t = true by unfold rsvW rsvL; simp only [List.any_cons, List.any_nil, h0, h1, h2, h3, h4, Bool.true_or, Bool.or_true, Bool.false_or])
    rw [hr.out]
    clear hr
    go_enter Tryz.func89, Tryz.ntmps89
    go_wp2
    go_ret
    exact ⟨rfl, rfl⟩
  cases h5 : (t.toList == [101, 115, 97, 99])
  rotate_left
  · have hr := Lib.hid (show rsvW t = true by unfold rsvW rsvL; simp only [List.any_cons, List.any_nil, h0, h1, h2, h3, h4, h5, Bool.true_or, Bool.or_true, Bool.false_or])
    rw [hr.out]
    clear hr
    go_enter Tryz.func89, Tryz.ntmps89
    go_wp2
    go_ret
    exact ⟨rfl, rfl⟩
  cases h6 : (t.toList == [102, 105])
  rotate_left
  · have hr := Lib.hid (show rsvW t = true by unfold rsvW rsvL; simp only [List.any_cons, List.any_nil, h0, h1, h2, h3, h4, h5, h6, Bool.true_or, Bool.or_true, Bool.false_or])
    rw [hr.out]
    clear hr
    go_enter Tryz.func89, Tryz.ntmps89
    go_wp2
    go_ret
    exact ⟨rfl, rfl⟩
  cases h7 : (t.toList == [105, 110])
  rotate_left
  · have hr := Lib.hid (show rsvW t = true by unfold rsvW rsvL; simp only [List.any_cons, List.any_nil, h0, h1, h2, h3, h4, h5, h6, h7, Bool.true_or, Bool.or_true, Bool.false_or])
    rw [hr.out]
    clear hr
    go_enter Tryz.func89, Tryz.ntmps89
    go_wp2
    go_ret
    exact ⟨rfl, rfl⟩
  cases h8 : (t.toList == [116, 104, 101, 110])
  rotate_left
  · have hr := Lib.hid (show rsvW t = true by unfold rsvW rsvL; simp only [List.any_cons, List.any_nil, h0, h1, h2, h3, h4, h5, h6, h7, h8, Bool.true_or, Bool.or_true, Bool.false_or])
    rw [hr.out]
    clear hr
    go_enter Tryz.func89, Tryz.ntmps89
    go_wp2
    go_ret
    exact ⟨rfl, rfl⟩
  have hr := Lib.hid (show rsvW t = begW t by unfold rsvW rsvL; simp only [List.any_cons, List.any_nil, h0, h1, h2, h3, h4, h5, h6, h7, h8, Bool.or_false, Bool.false_or])
  rw [hr.out]
  clear hr
  have hb := Lib.hid (begW_any t w)
  go_enter Tryz.func89, Tryz.ntmps89
  go_wp2_with (go_at_call 97; refine hb.out.mono ?_; rintro e w' ⟨rfl, rfl⟩)
  go_ret
  exact ⟨rfl, rfl⟩
end
end Go.Proofs.YtnhbcmhinhncfaaGreatDoor
/- The parser in memory up to what peeking fills; the small calls once more. Condition: the parser lies as stated. -/
namespace Go.Proofs.YtnhbcmhinhncfaaGreatDoor
open Go.RowKit Go.Shelf Go.PlainAid
set_option linter.unusedVariables false
set_option linter.unusedSimpArgs false
attribute [local go_sem] Oper.semAt_some
/-- The parser lies in the state, up to filling. -/
def PF (b : Nat) (s : ByteArray) (w : World) (st : PS) : Prop := PW s st ∧ ∃ st0, PAt b s w st0 ∧ fill s st0 = fill s st
def An (b : Nat) (s : ByteArray) (w : World) (v : Value) (st : PS) (e : Ending) (w' : World) : Prop := e = .returned v ∧ PF b s w' st ∧ Fb b w w'
section
variable {b : Nat} {s : ByteArray} {w : World} {st st' : PS}
theorem PF.of (h : PAt b s w st) : PF b s w st := ⟨h.ok, st, h, rfl⟩
theorem PF.ok (h : PF b s w st) : PW s st := h.1
theorem PF.congr (h : PF b s w st) (h' : PW s st') (e : fill s st = fill s st') : PF b s w st' := by
  obtain ⟨_, st0, h0, e0⟩ := h
  exact ⟨h', st0, h0, e0.trans e⟩
theorem PF.unfill (h : PF b s w (fill s st)) (hk : PW s st) : PF b s w st := h.congr hk (fill_fill hk)
theorem PF.fill (h : PF b s w st) : PF b s w (fill s st) := h.congr (fill_fl h.ok).ok (fill_fill h.ok).symm
theorem PF.below {w' : World} (h : PF b s w st) (hb : Below w.heap.size w w') : PF b s w' st := by
  obtain ⟨hk, st0, h0, e0⟩ := h
  exact ⟨hk, st0, h0.below hb, e0⟩
theorem PF.lt (h : PF b s w st) : b < w.heap.size := by obtain ⟨_, _, h0, _⟩ := h; exact h0.lt
theorem PF.gl (h : PF b s w st) : Gl w := by obtain ⟨_, _, ⟨_, _, h0⟩, _⟩ := h; exact h0.gl
theorem PF.b16 (h : PF b s w st) : 8 ≤ b := by obtain ⟨_, _, ⟨_, _, h0⟩, _⟩ := h; exact h0.b16
theorem peek_eq {u v : PS} (e : fill s u = fill s v) : peekP s u = peekP s v := by unfold peekP; rw [e]
theorem next_eq {u v : PS} (e : fill s u = fill s v) : nextP s u = nextP s v := by unfold nextP; rw [e]
theorem need_eq {u v : PS} (e : fill s u = fill s v) (m : Bool) : needP s m u = needP s m v ∧ needT s m u = needT s m v := by
  cases m
  · constructor
    · show nextP s (failP (peekP s u).place 56 (fill s u)) = nextP s (failP (peekP s v).place 56 (fill s v)); rw [peek_eq e, e]
    · show peekP s (failP (peekP s u).place 56 (fill s u)) = peekP s (failP (peekP s v).place 56 (fill s v)); rw [peek_eq e, e]
  · exact ⟨next_eq e, peek_eq e⟩
theorem pw_need (h : PW s st) (m : Bool) : PW s (needP s m st) := by
  cases m
  · exact pw_next (pw_fail _ _ (fill_fl h).ok)
  · exact pw_next h
theorem pw_fill (h : PW s st) : PW s (fill s st) := (fill_fl h).ok
theorem pw_newl : ∀ (f : Nat) (st : PS), PW s st → PW s (newlP s f st)
  | 0, st, h => h
  | f + 1, st, h => by
    unfold newlP
    split
    · exact pw_newl f _ (pw_next h)
    · exact pw_fill h
theorem newl_eq {u v : PS} (hu : PW s u) (hv : PW s v) (e : fill s u = fill s v) : newl s u = newl s v := by
  by_cases hk : (peekP s u).kind = 3
  · rw [newl_on hu hk, newl_on hv (by rw [← peek_eq e]; exact hk), next_eq e]
  · rw [newl_no hk, newl_no (by rw [← peek_eq e]; exact hk), e]
theorem ask_eq {u v : PS} (e : fill s u = fill s v) (d : Int) : askD s d u = askD s d v := by unfold askD; rw [peek_eq e, e]
theorem pw_ask (h : PW s st) (d : Int) : PW s (askD s d st) := by
  unfold askD
  split
  · exact pw_fail _ _ (pw_fill h)
  · exact pw_fill h
theorem An.mono_ {v : Value} {e : Ending} {w' : World} (h : Ans b s w v st e w') : An b s w v st e w' := ⟨h.1, PF.of h.2.1, h.2.2⟩
theorem peek_f (h : PF b s w st) : Calls Tryz.prog 20 #[ptr b] w (An b s w (tkV (peekP s st)) st) := by
  obtain ⟨hk, st0, h0, e⟩ := h
  refine (peek_ans h0).mono fun r w' hr => ?_
  rw [peek_eq e, e] at hr
  exact ⟨hr.1, (PF.of hr.2.1).unfill hk, hr.2.2⟩
theorem next_f (h : PF b s w st) : Calls Tryz.prog 27 #[ptr b] w (An b s w (tkV (peekP s st)) (nextP s st)) := by
  obtain ⟨hk, st0, h0, e⟩ := h
  refine (next_ans h0).mono fun r w' hr => ?_
  rw [peek_eq e, next_eq e] at hr
  exact An.mono_ hr
theorem need_f (h : PF b s w st) (m : Bool) : Calls Tryz.prog 22 #[ptr b, .bool m] w (An b s w (tkV (needT s m st)) (needP s m st)) := by
  obtain ⟨hk, st0, h0, e⟩ := h
  refine (need_any h0 m).mono fun r w' hr => ?_
  rw [(need_eq e m).1, (need_eq e m).2] at hr
  exact An.mono_ hr
theorem fail_f (h : PF b s w st) (pl er : Int) : Calls Tryz.prog 29 #[ptr b, .int .i64 pl, .int .i64 er] w fun r w' => r = .returned (.tuple #[]) ∧ (∃ st0, fill s st0 = fill s st ∧ PAt b s w' (failP pl er st0)) ∧ Fb b w w' := by
  obtain ⟨hk, st0, h0, e⟩ := h
  exact (fail_any h0 pl er).mono fun r w' hr => ⟨hr.1, ⟨st0, e, hr.2.1⟩, hr.2.2⟩
theorem isOp_f (h : PF b s w st) (op : ByteArray) : Calls Tryz.prog 61 #[ptr b, .string op] w (An b s w (.bool (hasO s op.toList st)) st) := by
  obtain ⟨hk, st0, h0, e⟩ := h
  refine (isOp_any h0 op).mono fun r w' hr => ?_
  unfold hasO at hr ⊢
  rw [peek_eq e, e] at hr
  exact ⟨hr.1, (PF.of hr.2.1).unfill hk, hr.2.2⟩
theorem isWord_f (h : PF b s w st) (op : ByteArray) : Calls Tryz.prog 76 #[ptr b, .string op] w (An b s w (.bool (hasW s op.toList st)) st) := by
  obtain ⟨hk, st0, h0, e⟩ := h
  refine (isWord_any h0 op).mono fun r w' hr => ?_
  unfold hasW at hr ⊢
  rw [peek_eq e, e] at hr
  exact ⟨hr.1, (PF.of hr.2.1).unfill hk, hr.2.2⟩
theorem took_f (h : PF b s w st) (op : ByteArray) : Calls Tryz.prog 45 #[ptr b, .string op] w (An b s w (.bool (hasO s op.toList st)) (if hasO s op.toList st then nextP s st else st)) := by
  obtain ⟨hk, st0, h0, e⟩ := h
  refine (took_any h0 op).mono fun r w' hr => ?_
  unfold hasO at hr ⊢
  unfold tookP at hr
  rw [peek_eq e, e, next_eq e] at hr
  refine ⟨hr.1, ?_, hr.2.2⟩
  have h2 := PF.of hr.2.1
  cases hb : isT 2 op.toList (peekP s st)
  · rw [hb] at h2; exact PF.unfill h2 hk
  · rw [hb] at h2; exact h2
theorem tookWord_f (h : PF b s w st) (op : ByteArray) : Calls Tryz.prog 100 #[ptr b, .string op] w (An b s w (.bool (hasW s op.toList st)) (if hasW s op.toList st then nextP s st else st)) := by
  obtain ⟨hk, st0, h0, e⟩ := h
  refine (tookWord_any h0 op).mono fun r w' hr => ?_
  unfold hasW at hr ⊢
  unfold tookP at hr
  rw [peek_eq e, e, next_eq e] at hr
  refine ⟨hr.1, ?_, hr.2.2⟩
  have h2 := PF.of hr.2.1
  cases hb : isT 1 op.toList (peekP s st)
  · rw [hb] at h2; exact PF.unfill h2 hk
  · rw [hb] at h2; exact h2
theorem needWord_f (h : PF b s w st) (op : ByteArray) : Calls Tryz.prog 101 #[ptr b, .string op] w (An b s w (.tuple #[]) (needP s (hasW s op.toList st) st)) := by
  obtain ⟨hk, st0, h0, e⟩ := h
  refine (needWord_any h0 op).mono fun r w' hr => ?_
  unfold hasW at hr ⊢
  rw [peek_eq e, (need_eq e _).1] at hr
  exact An.mono_ hr
theorem newlines_f (h : PF b s w st) : Calls Tryz.prog 19 #[ptr b] w (An b s w (.tuple #[]) (newl s st)) := by
  obtain ⟨hk, st0, h0, e⟩ := h
  refine (newlines_any h0).mono fun r w' hr => ?_
  rw [newl_eq h0.ok hk e] at hr
  exact An.mono_ hr
theorem asksDepth_f (h : PF b s w st) (d : Int) : Calls Tryz.prog 75 #[ptr b, .int .i64 d] w (An b s w (.tuple #[]) (askD s d st)) := by
  obtain ⟨hk, st0, h0, e⟩ := h
  refine (asksDepth_any h0 d).mono fun r w' hr => ?_
  rw [ask_eq e] at hr
  exact An.mono_ hr
theorem isRed_f (h : PF b s w st) : Calls Tryz.prog 106 #[ptr b] w (An b s w (.bool (redT (peekP s st))) st) := by
  obtain ⟨hk, st0, h0, e⟩ := h
  refine (isRedirection_any h0).mono fun r w' hr => ?_
  rw [peek_eq e, e] at hr
  exact ⟨hr.1, (PF.of hr.2.1).unfill hk, hr.2.2⟩
end
end Go.Proofs.YtnhbcmhinhncfaaGreatDoor
/- What ends a body. Condition: the parser lies as stated. -/
namespace Go.Proofs.YtnhbcmhinhncfaaGreatDoor
open Go.RowKit Go.Shelf Go.PlainAid
set_option linter.unusedVariables false
set_option linter.unusedSimpArgs false
attribute [local go_sem] Oper.semAt_some
section
variable {b : Nat} {s : ByteArray} {w : World} {st : PS}
/-- A local copy of a token: its place, what it holds. -/
theorem tok_copy {v : Value} {e : Ending} (h : PF b s w st) (t : Tk) : ∃ q W, w.heap.size = q ∧ w.alloc (.cells (tkC t) 58) = W ∧ PF b s W st ∧ Fb b w W ∧ Blk W q 58 (tkC t) ∧ b ≠ q :=
  ⟨_, _, rfl, rfl, h.below ((Below.refl _ _).alloc (Nat.le_refl _) _), (Fb.refl b w).alloc _, Blk.new _ _ _, by have := h.lt; omega⟩
set_option maxRecDepth 100000 in
set_option maxHeartbeats 4000000 in
theorem closes_f (h : PF b s w st) : Calls Tryz.prog 113 #[ptr b] w (An b s w (.bool (closes s st)) st) := by
  have hpk := Lib.hid (peek_f h)
  have hr := Lib.hid (show closes s st = ((peekP s st).kind == 0 || hasO s [41] st || hasO s [59, 59] st || ((peekP s st).kind == 1 && rsvW (peekP s st).text && !begW (peekP s st).text)) from rfl)
  obtain ⟨t, ht⟩ : ∃ t, peekP s st = t := ⟨_, rfl⟩
  rw [ht] at hpk hr
  obtain ⟨o1, ho1⟩ : ∃ o, hasO s [41] st = o := ⟨_, rfl⟩
  obtain ⟨o2, ho2⟩ : ∃ o, hasO s [59, 59] st = o := ⟨_, rfl⟩
  have p1 := Lib.hid (fun (W : World) (hp : PF b s W st) => isOp_f hp ⟨#[41]⟩)
  have p2 := Lib.hid (fun (W : World) (hp : PF b s W st) => isOp_f hp ⟨#[59, 59]⟩)
  rw [show (⟨#[41]⟩ : ByteArray).toList = [41] by kernel_rfl, ho1] at p1
  rw [show (⟨#[59, 59]⟩ : ByteArray).toList = [59, 59] by kernel_rfl, ho2] at p2
  rw [ho1, ho2] at hr
  have hrs := Lib.hid (fun W => rsvW_any t.text W)
  have hbg := Lib.hid (fun W => begW_any t.text W)
  obtain ⟨r1, hr1⟩ : ∃ o, rsvW t.text = o := ⟨_, rfl⟩
  obtain ⟨g1, hg1⟩ : ∃ o, begW t.text = o := ⟨_, rfl⟩
  rw [hr1] at hr hrs
  rw [hg1] at hr hbg
  clear ht h ho1 ho2 hr1 hg1
  cases k0 : (t.kind == 0)
  rotate_left
  · have hr2 := Lib.hid hr.out
    simp only [k0, Bool.true_or, Bool.or_true, Bool.false_or, Bool.or_false, Bool.and_true, Bool.true_and, Bool.false_and, Bool.and_false, Bool.not_true, Bool.not_false] at hr2
    have hr3 := Lib.hid hr2.out
    clear hr hr2
    go_enter Tryz.func113, Tryz.ntmps113
    go_upto_region 2 with (go_at_call 20; refine hpk.out.mono ?_; rintro e w2 ⟨rfl, hA2, hF2⟩; have hA2H := Lib.hid hA2; have hF2H := Lib.hid hF2; clear hA2 hF2; dsimp only [tkV])
    obtain ⟨q, W, hq, hW, hA3, hF3, hT, hbq⟩ := tok_copy (v := .bool true) (e := .returned (.bool true)) hA2H.out t
    unfold tkC at hW
    rw [hW, hq]
    have t0 : W.cell? ⟨q, 0, none⟩ = some (.int .i64 t.kind) := hT.cell 0
    have t1 : W.cell? ⟨q, 1, none⟩ = some (.string t.text) := hT.cell 1
    have hTH := Lib.hid hT
    have hA3H := Lib.hid hA3
    have hF3H := Lib.hid (hF2H.out.trans hF3)
    have hqb : q ≠ b := fun e => hbq e.symm
    clear hW hq hA3 hF3 hT
    go_wp2_with (first
      | (go_at_call 97; refine (hbg.out _).mono ?_; rintro e w6 ⟨rfl, rfl⟩)
      | (go_at_call 89; refine (hrs.out _).mono ?_; rintro e w6 ⟨rfl, rfl⟩)
      | (go_at_call 61; refine (p2.out _ hA4H.out).mono ?_; rintro e w5 ⟨rfl, hA5, hF5⟩; have hA5H := Lib.hid hA5; have hF5H := Lib.hid (hF4H.out.trans hF5); have hT5 := Lib.hid (hF5.blk hT4.out hqb); have v0 : w5.cell? ⟨q, 0, none⟩ = some (.int .i64 t.kind) := hT5.out.cell 0; have v1 : w5.cell? ⟨q, 1, none⟩ = some (.string t.text) := hT5.out.cell 1; clear hA5 hF5)
      | (go_at_call 61; refine (p1.out _ hA3H.out).mono ?_; rintro e w4 ⟨rfl, hA4, hF4⟩; have hA4H := Lib.hid hA4; have hF4H := Lib.hid (hF3H.out.trans hF4); have hT4 := Lib.hid (hF4.blk hTH.out hqb); have u0 : w4.cell? ⟨q, 0, none⟩ = some (.int .i64 t.kind) := hT4.out.cell 0; have u1 : w4.cell? ⟨q, 1, none⟩ = some (.string t.text) := hT4.out.cell 1; clear hA4 hF4))
    go_ret
    rw [hr3.out]
    exact ⟨rfl, hA3H.out, hF3H.out⟩
  cases o1
  rotate_left
  · have hr2 := Lib.hid hr.out
    simp only [k0, Bool.true_or, Bool.or_true, Bool.false_or, Bool.or_false, Bool.and_true, Bool.true_and, Bool.false_and, Bool.and_false, Bool.not_true, Bool.not_false] at hr2
    have hr3 := Lib.hid hr2.out
    clear hr hr2
    go_enter Tryz.func113, Tryz.ntmps113
    go_upto_region 2 with (go_at_call 20; refine hpk.out.mono ?_; rintro e w2 ⟨rfl, hA2, hF2⟩; have hA2H := Lib.hid hA2; have hF2H := Lib.hid hF2; clear hA2 hF2; dsimp only [tkV])
    obtain ⟨q, W, hq, hW, hA3, hF3, hT, hbq⟩ := tok_copy (v := .bool true) (e := .returned (.bool true)) hA2H.out t
    unfold tkC at hW
    rw [hW, hq]
    have t0 : W.cell? ⟨q, 0, none⟩ = some (.int .i64 t.kind) := hT.cell 0
    have t1 : W.cell? ⟨q, 1, none⟩ = some (.string t.text) := hT.cell 1
    have hTH := Lib.hid hT
    have hA3H := Lib.hid hA3
    have hF3H := Lib.hid (hF2H.out.trans hF3)
    have hqb : q ≠ b := fun e => hbq e.symm
    clear hW hq hA3 hF3 hT
    go_wp2_with (first
      | (go_at_call 97; refine (hbg.out _).mono ?_; rintro e w6 ⟨rfl, rfl⟩)
      | (go_at_call 89; refine (hrs.out _).mono ?_; rintro e w6 ⟨rfl, rfl⟩)
      | (go_at_call 61; refine (p2.out _ hA4H.out).mono ?_; rintro e w5 ⟨rfl, hA5, hF5⟩; have hA5H := Lib.hid hA5; have hF5H := Lib.hid (hF4H.out.trans hF5); have hT5 := Lib.hid (hF5.blk hT4.out hqb); have v0 : w5.cell? ⟨q, 0, none⟩ = some (.int .i64 t.kind) := hT5.out.cell 0; have v1 : w5.cell? ⟨q, 1, none⟩ = some (.string t.text) := hT5.out.cell 1; clear hA5 hF5)
      | (go_at_call 61; refine (p1.out _ hA3H.out).mono ?_; rintro e w4 ⟨rfl, hA4, hF4⟩; have hA4H := Lib.hid hA4; have hF4H := Lib.hid (hF3H.out.trans hF4); have hT4 := Lib.hid (hF4.blk hTH.out hqb); have u0 : w4.cell? ⟨q, 0, none⟩ = some (.int .i64 t.kind) := hT4.out.cell 0; have u1 : w4.cell? ⟨q, 1, none⟩ = some (.string t.text) := hT4.out.cell 1; clear hA4 hF4))
    go_ret
    rw [hr3.out]
    exact ⟨rfl, hA4H.out, hF4H.out⟩
  cases o2
  rotate_left
  · have hr2 := Lib.hid hr.out
    simp only [k0, Bool.true_or, Bool.or_true, Bool.false_or, Bool.or_false, Bool.and_true, Bool.true_and, Bool.false_and, Bool.and_false, Bool.not_true, Bool.not_false] at hr2
    have hr3 := Lib.hid hr2.out
    clear hr hr2
    go_enter Tryz.func113, Tryz.ntmps113
    go_upto_region 2 with (go_at_call 20; refine hpk.out.mono ?_; rintro e w2 ⟨rfl, hA2, hF2⟩; have hA2H := Lib.hid hA2; have hF2H := Lib.hid hF2; clear hA2 hF2; dsimp only [tkV])
    obtain ⟨q, W, hq, hW, hA3, hF3, hT, hbq⟩ := tok_copy (v := .bool true) (e := .returned (.bool true)) hA2H.out t
    unfold tkC at hW
    rw [hW, hq]
    have t0 : W.cell? ⟨q, 0, none⟩ = some (.int .i64 t.kind) := hT.cell 0
    have t1 : W.cell? ⟨q, 1, none⟩ = some (.string t.text) := hT.cell 1
    have hTH := Lib.hid hT
    have hA3H := Lib.hid hA3
    have hF3H := Lib.hid (hF2H.out.trans hF3)
    have hqb : q ≠ b := fun e => hbq e.symm
    clear hW hq hA3 hF3 hT
    go_wp2_with (first
      | (go_at_call 97; refine (hbg.out _).mono ?_; rintro e w6 ⟨rfl, rfl⟩)
      | (go_at_call 89; refine (hrs.out _).mono ?_; rintro e w6 ⟨rfl, rfl⟩)
      | (go_at_call 61; refine (p2.out _ hA4H.out).mono ?_; rintro e w5 ⟨rfl, hA5, hF5⟩; have hA5H := Lib.hid hA5; have hF5H := Lib.hid (hF4H.out.trans hF5); have hT5 := Lib.hid (hF5.blk hT4.out hqb); have v0 : w5.cell? ⟨q, 0, none⟩ = some (.int .i64 t.kind) := hT5.out.cell 0; have v1 : w5.cell? ⟨q, 1, none⟩ = some (.string t.text) := hT5.out.cell 1; clear hA5 hF5)
      | (go_at_call 61; refine (p1.out _ hA3H.out).mono ?_; rintro e w4 ⟨rfl, hA4, hF4⟩; have hA4H := Lib.hid hA4; have hF4H := Lib.hid (hF3H.out.trans hF4); have hT4 := Lib.hid (hF4.blk hTH.out hqb); have u0 : w4.cell? ⟨q, 0, none⟩ = some (.int .i64 t.kind) := hT4.out.cell 0; have u1 : w4.cell? ⟨q, 1, none⟩ = some (.string t.text) := hT4.out.cell 1; clear hA4 hF4))
    go_ret
    rw [hr3.out]
    exact ⟨rfl, hA5H.out, hF5H.out⟩
  cases k1 : (t.kind == 1)
  · have hr2 := Lib.hid hr.out
    simp only [k0, k1, Bool.true_or, Bool.or_true, Bool.false_or, Bool.or_false, Bool.and_true, Bool.true_and, Bool.false_and, Bool.and_false, Bool.not_true, Bool.not_false] at hr2
    have hr3 := Lib.hid hr2.out
    clear hr hr2
    go_enter Tryz.func113, Tryz.ntmps113
    go_upto_region 2 with (go_at_call 20; refine hpk.out.mono ?_; rintro e w2 ⟨rfl, hA2, hF2⟩; have hA2H := Lib.hid hA2; have hF2H := Lib.hid hF2; clear hA2 hF2; dsimp only [tkV])
    obtain ⟨q, W, hq, hW, hA3, hF3, hT, hbq⟩ := tok_copy (v := .bool true) (e := .returned (.bool true)) hA2H.out t
    unfold tkC at hW
    rw [hW, hq]
    have t0 : W.cell? ⟨q, 0, none⟩ = some (.int .i64 t.kind) := hT.cell 0
    have t1 : W.cell? ⟨q, 1, none⟩ = some (.string t.text) := hT.cell 1
    have hTH := Lib.hid hT
    have hA3H := Lib.hid hA3
    have hF3H := Lib.hid (hF2H.out.trans hF3)
    have hqb : q ≠ b := fun e => hbq e.symm
    clear hW hq hA3 hF3 hT
    go_wp2_with (first
      | (go_at_call 97; refine (hbg.out _).mono ?_; rintro e w6 ⟨rfl, rfl⟩)
      | (go_at_call 89; refine (hrs.out _).mono ?_; rintro e w6 ⟨rfl, rfl⟩)
      | (go_at_call 61; refine (p2.out _ hA4H.out).mono ?_; rintro e w5 ⟨rfl, hA5, hF5⟩; have hA5H := Lib.hid hA5; have hF5H := Lib.hid (hF4H.out.trans hF5); have hT5 := Lib.hid (hF5.blk hT4.out hqb); have v0 : w5.cell? ⟨q, 0, none⟩ = some (.int .i64 t.kind) := hT5.out.cell 0; have v1 : w5.cell? ⟨q, 1, none⟩ = some (.string t.text) := hT5.out.cell 1; clear hA5 hF5)
      | (go_at_call 61; refine (p1.out _ hA3H.out).mono ?_; rintro e w4 ⟨rfl, hA4, hF4⟩; have hA4H := Lib.hid hA4; have hF4H := Lib.hid (hF3H.out.trans hF4); have hT4 := Lib.hid (hF4.blk hTH.out hqb); have u0 : w4.cell? ⟨q, 0, none⟩ = some (.int .i64 t.kind) := hT4.out.cell 0; have u1 : w4.cell? ⟨q, 1, none⟩ = some (.string t.text) := hT4.out.cell 1; clear hA4 hF4))
    go_ret
    rw [hr3.out]
    exact ⟨rfl, hA5H.out, hF5H.out⟩
  cases r1
  · have hr2 := Lib.hid hr.out
    simp only [k0, k1, Bool.true_or, Bool.or_true, Bool.false_or, Bool.or_false, Bool.and_true, Bool.true_and, Bool.false_and, Bool.and_false, Bool.not_true, Bool.not_false] at hr2
    have hr3 := Lib.hid hr2.out
    clear hr hr2
    go_enter Tryz.func113, Tryz.ntmps113
    go_upto_region 2 with (go_at_call 20; refine hpk.out.mono ?_; rintro e w2 ⟨rfl, hA2, hF2⟩; have hA2H := Lib.hid hA2; have hF2H := Lib.hid hF2; clear hA2 hF2; dsimp only [tkV])
    obtain ⟨q, W, hq, hW, hA3, hF3, hT, hbq⟩ := tok_copy (v := .bool true) (e := .returned (.bool true)) hA2H.out t
    unfold tkC at hW
    rw [hW, hq]
    have t0 : W.cell? ⟨q, 0, none⟩ = some (.int .i64 t.kind) := hT.cell 0
    have t1 : W.cell? ⟨q, 1, none⟩ = some (.string t.text) := hT.cell 1
    have hTH := Lib.hid hT
    have hA3H := Lib.hid hA3
    have hF3H := Lib.hid (hF2H.out.trans hF3)
    have hqb : q ≠ b := fun e => hbq e.symm
    clear hW hq hA3 hF3 hT
    go_wp2_with (first
      | (go_at_call 97; refine (hbg.out _).mono ?_; rintro e w6 ⟨rfl, rfl⟩)
      | (go_at_call 89; refine (hrs.out _).mono ?_; rintro e w6 ⟨rfl, rfl⟩)
      | (go_at_call 61; refine (p2.out _ hA4H.out).mono ?_; rintro e w5 ⟨rfl, hA5, hF5⟩; have hA5H := Lib.hid hA5; have hF5H := Lib.hid (hF4H.out.trans hF5); have hT5 := Lib.hid (hF5.blk hT4.out hqb); have v0 : w5.cell? ⟨q, 0, none⟩ = some (.int .i64 t.kind) := hT5.out.cell 0; have v1 : w5.cell? ⟨q, 1, none⟩ = some (.string t.text) := hT5.out.cell 1; clear hA5 hF5)
      | (go_at_call 61; refine (p1.out _ hA3H.out).mono ?_; rintro e w4 ⟨rfl, hA4, hF4⟩; have hA4H := Lib.hid hA4; have hF4H := Lib.hid (hF3H.out.trans hF4); have hT4 := Lib.hid (hF4.blk hTH.out hqb); have u0 : w4.cell? ⟨q, 0, none⟩ = some (.int .i64 t.kind) := hT4.out.cell 0; have u1 : w4.cell? ⟨q, 1, none⟩ = some (.string t.text) := hT4.out.cell 1; clear hA4 hF4))
    go_ret
    rw [hr3.out]
    exact ⟨rfl, hA5H.out, hF5H.out⟩
  cases g1
  · have hr2 := Lib.hid hr.out
    simp only [k0, k1, Bool.true_or, Bool.or_true, Bool.false_or, Bool.or_false, Bool.and_true, Bool.true_and, Bool.false_and, Bool.and_false, Bool.not_true, Bool.not_false] at hr2
    have hr3 := Lib.hid hr2.out
    clear hr hr2
    go_enter Tryz.func113, Tryz.ntmps113
    go_upto_region 2 with (go_at_call 20; refine hpk.out.mono ?_; rintro e w2 ⟨rfl, hA2, hF2⟩; have hA2H := Lib.hid hA2; have hF2H := Lib.hid hF2; clear hA2 hF2; dsimp only [tkV])
    obtain ⟨q, W, hq, hW, hA3, hF3, hT, hbq⟩ := tok_copy (v := .bool true) (e := .returned (.bool true)) hA2H.out t
    unfold tkC at hW
    rw [hW, hq]
    have t0 : W.cell? ⟨q, 0, none⟩ = some (.int .i64 t.kind) := hT.cell 0
    have t1 : W.cell? ⟨q, 1, none⟩ = some (.string t.text) := hT.cell 1
    have hTH := Lib.hid hT
    have hA3H := Lib.hid hA3
    have hF3H := Lib.hid (hF2H.out.trans hF3)
    have hqb : q ≠ b := fun e => hbq e.symm
    clear hW hq hA3 hF3 hT
    go_wp2_with (first
      | (go_at_call 97; refine (hbg.out _).mono ?_; rintro e w6 ⟨rfl, rfl⟩)
      | (go_at_call 89; refine (hrs.out _).mono ?_; rintro e w6 ⟨rfl, rfl⟩)
      | (go_at_call 61; refine (p2.out _ hA4H.out).mono ?_; rintro e w5 ⟨rfl, hA5, hF5⟩; have hA5H := Lib.hid hA5; have hF5H := Lib.hid (hF4H.out.trans hF5); have hT5 := Lib.hid (hF5.blk hT4.out hqb); have v0 : w5.cell? ⟨q, 0, none⟩ = some (.int .i64 t.kind) := hT5.out.cell 0; have v1 : w5.cell? ⟨q, 1, none⟩ = some (.string t.text) := hT5.out.cell 1; clear hA5 hF5)
      | (go_at_call 61; refine (p1.out _ hA3H.out).mono ?_; rintro e w4 ⟨rfl, hA4, hF4⟩; have hA4H := Lib.hid hA4; have hF4H := Lib.hid (hF3H.out.trans hF4); have hT4 := Lib.hid (hF4.blk hTH.out hqb); have u0 : w4.cell? ⟨q, 0, none⟩ = some (.int .i64 t.kind) := hT4.out.cell 0; have u1 : w4.cell? ⟨q, 1, none⟩ = some (.string t.text) := hT4.out.cell 1; clear hA4 hF4))
    go_ret
    rw [hr3.out]
    exact ⟨rfl, hA5H.out, hF5H.out⟩
  · have hr2 := Lib.hid hr.out
    simp only [k0, k1, Bool.true_or, Bool.or_true, Bool.false_or, Bool.or_false, Bool.and_true, Bool.true_and, Bool.false_and, Bool.and_false, Bool.not_true, Bool.not_false] at hr2
    have hr3 := Lib.hid hr2.out
    clear hr hr2
    go_enter Tryz.func113, Tryz.ntmps113
    go_upto_region 2 with (go_at_call 20; refine hpk.out.mono ?_; rintro e w2 ⟨rfl, hA2, hF2⟩; have hA2H := Lib.hid hA2; have hF2H := Lib.hid hF2; clear hA2 hF2; dsimp only [tkV])
    obtain ⟨q, W, hq, hW, hA3, hF3, hT, hbq⟩ := tok_copy (v := .bool true) (e := .returned (.bool true)) hA2H.out t
    unfold tkC at hW
    rw [hW, hq]
    have t0 : W.cell? ⟨q, 0, none⟩ = some (.int .i64 t.kind) := hT.cell 0
    have t1 : W.cell? ⟨q, 1, none⟩ = some (.string t.text) := hT.cell 1
    have hTH := Lib.hid hT
    have hA3H := Lib.hid hA3
    have hF3H := Lib.hid (hF2H.out.trans hF3)
    have hqb : q ≠ b := fun e => hbq e.symm
    clear hW hq hA3 hF3 hT
    go_wp2_with (first
      | (go_at_call 97; refine (hbg.out _).mono ?_; rintro e w6 ⟨rfl, rfl⟩)
      | (go_at_call 89; refine (hrs.out _).mono ?_; rintro e w6 ⟨rfl, rfl⟩)
      | (go_at_call 61; refine (p2.out _ hA4H.out).mono ?_; rintro e w5 ⟨rfl, hA5, hF5⟩; have hA5H := Lib.hid hA5; have hF5H := Lib.hid (hF4H.out.trans hF5); have hT5 := Lib.hid (hF5.blk hT4.out hqb); have v0 : w5.cell? ⟨q, 0, none⟩ = some (.int .i64 t.kind) := hT5.out.cell 0; have v1 : w5.cell? ⟨q, 1, none⟩ = some (.string t.text) := hT5.out.cell 1; clear hA5 hF5)
      | (go_at_call 61; refine (p1.out _ hA3H.out).mono ?_; rintro e w4 ⟨rfl, hA4, hF4⟩; have hA4H := Lib.hid hA4; have hF4H := Lib.hid (hF3H.out.trans hF4); have hT4 := Lib.hid (hF4.blk hTH.out hqb); have u0 : w4.cell? ⟨q, 0, none⟩ = some (.int .i64 t.kind) := hT4.out.cell 0; have u1 : w4.cell? ⟨q, 1, none⟩ = some (.string t.text) := hT4.out.cell 1; clear hA4 hF4))
    go_ret
    rw [hr3.out]
    exact ⟨rfl, hA5H.out, hF5H.out⟩
end
end Go.Proofs.YtnhbcmhinhncfaaGreatDoor
/- A redirection. Condition: the parser lies as stated. -/
namespace Go.Proofs.YtnhbcmhinhncfaaGreatDoor
open Go.RowKit Go.Shelf Go.PlainAid
set_option linter.unusedVariables false
set_option linter.unusedSimpArgs false
attribute [local go_sem] Oper.semAt_some
abbrev rdC5 (r : Rd) : Array Value := #[.int .i64 r.fd, .string r.op, .string r.word, .string r.doc, .bool r.raw]
abbrev rdV (r : Rd) : Value := .agg (rdC5 r)
abbrev R5 : Array Value := #[.int .i64 0, .string ⟨#[]⟩, .string ⟨#[]⟩, .string ⟨#[]⟩, .bool false]
section
variable {b : Nat} {s : ByteArray} {w : World} {st : PS}
/-- What holds while a redirection is read: the result's place, the redirection's. -/
structure RdI (b q2 q3 : Nat) (s : ByteArray) (w : World) (st : PS) (r : Rd) (W : World) : Prop where
  pf : PF b s W st
  fb : Fb b w W
  z2 : Blk W q2 50 R5
  z3 : Blk W q3 50 (rdC5 r)
theorem RdI.step {q2 q3 : Nat} {st' : PS} {r : Rd} {W W' : World} (h : RdI b q2 q3 s w st r W) (hp : PF b s W' st') (hf : Fb b W W') (h2 : q2 ≠ b) (h3 : q3 ≠ b) : RdI b q2 q3 s w st' r W' :=
  ⟨hp, h.fb.trans hf, hf.blk h.z2 h2, hf.blk h.z3 h3⟩
/-- A block of one's own that is neither the parser's nor its tokens' is written. -/
theorem PF.write {q i : Nat} {u : Value} {T : TypeId} {cs : Array Value} {W : World} (h : PF b s W st) (hB : Blk W q T cs) (hT : T ≠ 58) (hqb : q ≠ b) (h16 : 8 ≤ q) : PF b s (W.setCell ⟨q, i, none⟩ u) st := by
  obtain ⟨hk, st0, ⟨a, c, h0⟩, e0⟩ := h
  have hne : ∀ g o, a = some ⟨g, o, none⟩ → st0.toks ≠ [] → g ≠ q := fun g o e hl e2 => by
    obtain ⟨cs2, hB2⟩ := h0.tk.ty g o e hl
    subst e2
    have h3 : some (Obj.cells cs T (0, 0)) = some (Obj.cells cs2 58 (0, 0)) := hB.symm.trans hB2
    simp at h3
    exact hT h3.2
  refine ⟨hk, st0, ⟨a, c, (Below.heap_setCell _ _ _ _ (show b ≠ q from fun e => hqb e.symm)).trans h0.blk, ⟨h0.tk.cap, h0.tk.tk, fun hl => ?_, fun g o e hl => ?_⟩, h0.gl.keep (by rw [World.size_setCell]; exact Nat.le_refl _) (fun g h1 => Below.heap_setCell _ _ _ _ (show g ≠ q by omega)), h0.b16, h0.ok⟩, e0⟩
  · obtain ⟨g, o, e, h1, h2, h3⟩ := h0.tk.at_ hl
    exact ⟨g, o, e, h1, by rw [World.size_setCell]; exact h2, fun i t hi j u hj => (World.cell?_of_block (a := ⟨g, o + i * 5 + j, none⟩) (Below.heap_setCell _ _ _ _ (hne g o e hl))).trans (h3 i t hi j u hj)⟩
  · obtain ⟨cs2, hB2⟩ := h0.tk.ty g o e hl
    exact ⟨cs2, (Below.heap_setCell _ _ _ _ (hne g o e hl)).trans hB2⟩
theorem PF.put5_ {q : Nat} {T : TypeId} {v1 v2 v3 v4 v5 : Value} {W : World} (h : PF b s W st) (hB : Blk W q T #[v1, v2, v3, v4, v5]) (hT : T ≠ 58) (hqb : q ≠ b) (h16 : 8 ≤ q) (a1 a2 a3 a4 a5 : Value) : PF b s (put5 W q a1 a2 a3 a4 a5) st :=
  ((((h.write hB hT hqb h16).write (hB.set_ 0 a1) hT hqb h16).write ((hB.set_ 0 a1).set_ 1 a2) hT hqb h16).write (((hB.set_ 0 a1).set_ 1 a2).set_ 2 a3) hT hqb h16).write ((((hB.set_ 0 a1).set_ 1 a2).set_ 2 a3).set_ 3 a4) hT hqb h16
theorem RdI.end_ {q2 : Nat} {st' : PS} {r : Rd} {W : World} (h : RdI b q2 (q2 + 1) s w st' r W) (hqb : q2 ≠ b) (h16 : 8 ≤ q2) (hwq : w.heap.size ≤ q2) (hr : redP s st = (r, st')) : An b s w (rdV (redP s st).1) (redP s st).2 (.returned (rdV r)) (put5 W q2 (.int .i64 r.fd) (.string r.op) (.string r.word) (.string r.doc) (.bool r.raw)) :=
  ⟨by rw [hr], by rw [hr]; exact h.pf.put5_ h.z2 (by decide) hqb h16 _ _ _ _ _, put5_fb h.fb hwq _ _ _ _ _⟩
theorem RdI.three {q2 : Nat} {st' : PS} {fd : Int} {o : ByteArray} {W : World} (h : RdI b q2 (q2 + 1) s w st' ⟨fd, o, noB, noB, false⟩ W) (hwq : w.heap.size ≤ q2) (hqb3 : q2 + 1 ≠ b) (h16 : 8 ≤ q2) (d : ByteArray) (r : Bool) : RdI b q2 (q2 + 1) s w st' ⟨fd, ⟨#[60, 60]⟩, noB, d, r⟩ ((((W.setCell ⟨q2 + 1, 1, none⟩ (.string ⟨#[60, 60]⟩)).setCell ⟨q2 + 1, 3, none⟩ (.string d)).setCell ⟨q2 + 1, 4, none⟩ (.bool r)).drew) := by
  have h3 : (8 : Nat) ≤ q2 + 1 := by omega
  have hn : q2 ≠ q2 + 1 := by omega
  have hw2 : w.heap.size ≤ q2 + 1 := by omega
  have k1 := h.pf.write (i := 1) (u := .string ⟨#[60, 60]⟩) h.z3 (by decide) hqb3 h3
  have k2 := k1.write (i := 3) (u := .string d) (h.z3.set_ 1 _) (by decide) hqb3 h3
  have k3 := k2.write (i := 4) (u := .bool r) ((h.z3.set_ 1 _).set_ 3 _) (by decide) hqb3 h3
  have f3 := (((h.fb.new_ hw2 1 (.string ⟨#[60, 60]⟩)).new_ hw2 3 (.string d)).new_ hw2 4 (.bool r))
  exact ⟨k3.below (below_drew (Below.refl _ _) 1), f3.trans (Fb.of_below (below_drew (Below.refl _ _) 1)), ((h.z2.far hn _).far hn _).far hn _, ((h.z3.set_ 1 _).set_ 3 _).set_ 4 _⟩
set_option maxRecDepth 100000 in
set_option maxHeartbeats 4000000 in
theorem redirection_f (h : PF b s w st) : Calls Tryz.prog 107 #[ptr b] w (An b s w (rdV (redP s st).1) (redP s st).2) := by
  have hlt := h.lt
  have h16 := h.b16
  obtain ⟨q2, hq2⟩ : ∃ q, w.heap.size = q := ⟨_, rfl⟩
  have hA : RdI b q2 (q2 + 1) s w st ⟨-1, noB, noB, noB, false⟩ ((w.alloc (.cells R5 50)).alloc (.cells (rdC5 ⟨-1, noB, noB, noB, false⟩) 50)) :=
    ⟨(h.below ((Below.refl _ _).alloc (Nat.le_refl _) _)).below ((Below.refl _ _).alloc (Nat.le_refl _) _), ((Fb.refl b w).alloc _).alloc _, by rw [← hq2]; exact (Blk.new _ _ _).alloc _, by
      have e : (w.alloc (.cells R5 50)).heap.size = q2 + 1 := by simp [hq2]
      rw [← e]; exact Blk.new _ _ _⟩
  obtain ⟨W0, hW0⟩ : ∃ W, (w.alloc (.cells R5 50)).alloc (.cells (rdC5 ⟨-1, noB, noB, noB, false⟩) 50) = W := ⟨_, rfl⟩
  rw [hW0] at hA
  unfold rdC5 R5 noB at hW0
  have hW0H := Lib.hid hW0
  clear hW0
  have hpk := Lib.hid (peek_f hA.pf)
  have hAH := Lib.hid hA
  obtain ⟨t, ht⟩ : ∃ t, peekP s st = t := ⟨_, rfl⟩
  rw [ht] at hpk
  have hqb : q2 ≠ b := by omega
  have hqb3 : q2 + 1 ≠ b := by omega
  clear hA h
  go_enter Tryz.func107, Tryz.ntmps107
  go_upto_region 2 with fail
  rw [hW0H.out]
  go_upto_region 3 with (go_at_call 20; refine hpk.out.mono ?_; rintro e w2 ⟨rfl, hA2, hF2⟩; have hI2 := Lib.hid (hAH.out.step hA2 hF2 hqb hqb3); clear hA2 hF2; dsimp only [tkV])
  obtain ⟨q4, W, hq4, hW, hA3, hF3, hT, hbq⟩ := tok_copy (v := .bool true) (e := .returned (.bool true)) hI2.out.pf t
  have hI3 := Lib.hid (hI2.out.step hA3 hF3 hqb hqb3)
  unfold tkC at hW
  rw [hW, hq4]
  have t0 : W.cell? ⟨q4, 0, none⟩ = some (.int .i64 t.kind) := hT.cell 0
  have t1 : W.cell? ⟨q4, 1, none⟩ = some (.string t.text) := hT.cell 1
  have hrn := Lib.hid (show redNum s st = if t.kind = 4 then (numV t.text.data.toList, needP s (numOk t.text.data.toList && decide (numV t.text.data.toList ≤ 9)) (fill s st)) else (-1, fill s st) by unfold redNum; rw [ht])
  have htb := Lib.hid (fun (hk : t.kind ≠ 0) => (show TkB t by rw [← ht] at hk ⊢; exact peek_tkb hI2.out.pf.ok hk))
  have hokH := Lib.hid hI2.out.pf.ok
  have h216 : 8 ≤ q2 := by omega
  have hwq := Lib.hid (show w.heap.size ≤ q2 by omega)
  have hlt4 := Lib.hid hT.lt
  clear hW hq4 hA3 hF3 hT hpk hAH hW0H ht
  go_upto_if 13 with fail
  go_cut [] (fun wx => Hid (RdI b q2 (q2 + 1) s w (redNum s st).2 ⟨(redNum s st).1, noB, noB, noB, false⟩ wx))
  case first =>
    cases hk : (t.kind == 4)
    · have hr := Lib.hid (hrn.out.trans (if_neg (beq_eq_false_iff_ne.1 hk)))
      go_wp2_with fail
      go_meet
      case rel =>
        rw [hr.out]
        exact Lib.hid ⟨hI3.out.pf.fill, hI3.out.fb, hI3.out.z2, hI3.out.z3⟩
    · have hr := Lib.hid (hrn.out.trans (if_pos (eq_of_beq hk)))
      have hsz := (htb.out (by rw [eq_of_beq hk]; decide)).le
      have hnum := Lib.hid (fun W hg => number_any t.text (by omega) W hg)
      obtain ⟨N, hN⟩ : ∃ N, numV t.text.data.toList = N := ⟨_, rfl⟩
      obtain ⟨O, hO⟩ : ∃ O, numOk t.text.data.toList = O := ⟨_, rfl⟩
      rw [hN, hO] at hr hnum
      have hq3b : ¬ q2 + 1 = b := hqb3
      cases O
      all_goals
        go_upto_region 6 with (first
          | (go_at_call 22; refine (need_f hI4.out.pf _).mono ?_; rintro e w5 ⟨rfl, hA5, hF5⟩; have hI5 := Lib.hid (hI4.out.step hA5 hF5 hqb hqb3); clear hA5 hF5)
          | (go_at_call 122; refine (hnum.out _ hI3.out.pf.gl).mono ?_; rintro e w4 ⟨rfl, hb4⟩; have hI4 := Lib.hid (hI3.out.step (hI3.out.pf.below hb4) (Fb.of_below hb4) hqb hqb3); clear hb4))
        have c0 : w5.cell? ⟨q2 + 1, 0, none⟩ = some (.int .i64 (-1)) := hI5.out.z3.cell 0
        have g0 := hI5.out.z3.frozen 0
        go_wp2_with fail
        go_meet
        case rel =>
          rw [hr.out]
          refine Lib.hid ⟨?_, hI5.out.fb.new_ (Nat.le_succ_of_le hwq.out) 0 _, hI5.out.z2.far (Nat.ne_of_lt (Nat.lt_succ_self q2)) _, hI5.out.z3.set_ 0 _⟩
          rw [(need_eq (fill_fill hokH.out) _).1]
          exact hI5.out.pf.write hI5.out.z3 (by decide) hqb3 (by omega)
  case rest =>
    have hrp := Lib.hid (show redP s st = (if (peekP s (redNum s st).2).text.toList = [60, 60] ∨ (peekP s (redNum s st).2).text.toList = [60, 60, 45] then ⟨(redNum s st).1, ⟨#[60, 60]⟩, noB, (needT s ((peekP s (nextP s (redNum s st).2)).kind == 1) (nextP s (redNum s st).2)).doc, (needT s ((peekP s (nextP s (redNum s st).2)).kind == 1) (nextP s (redNum s st).2)).raw⟩ else ⟨(redNum s st).1, (peekP s (redNum s st).2).text, (needT s ((peekP s (nextP s (redNum s st).2)).kind == 1) (nextP s (redNum s st).2)).text, noB, false⟩,
      needP s ((peekP s (nextP s (redNum s st).2)).kind == 1) (nextP s (redNum s st).2)) from rfl)
    have hc := hcut.out
    obtain ⟨A, hA⟩ : ∃ A, redNum s st = A := ⟨_, rfl⟩
    rw [hA] at hrp hc
    obtain ⟨fd, st1⟩ := A
    have hcH := Lib.hid hc
    clear hcut hc hA hrn htb hI3 hI2
    go_upto_region 7 with fail
    obtain ⟨o, ho⟩ : ∃ o, peekP s st1 = o := ⟨_, rfl⟩
    obtain ⟨u, hu⟩ : ∃ u, peekP s (nextP s st1) = u := ⟨_, rfl⟩
    obtain ⟨m, hm⟩ : ∃ m, (u.kind == 1) = m := ⟨_, rfl⟩
    obtain ⟨x, hx⟩ : ∃ x, needT s m (nextP s st1) = x := ⟨_, rfl⟩
    dsimp only at hcH hrp
    rw [ho, hu, hm, hx] at hrp
    have hn1 := Lib.hid (next_f hcH.out.pf)
    rw [ho] at hn1
    have hf1 := fld1 o
    have hf0 := fld0 u
    have hq3b : ¬ q2 + 1 = b := hqb3
    have hq23 : ¬ q2 + 1 = q2 := by omega
    go_upto_region 8 with (go_at_call 27; refine hn1.out.mono ?_; rintro e w4 ⟨rfl, hA4, hF4⟩; have hI4 := Lib.hid (hcH.out.step hA4 hF4 hqb hqb3); have c1 : w4.cell? ⟨q2 + 1, 1, none⟩ = some (.string ⟨#[]⟩) := hI4.out.z3.cell 1; have g1 := hI4.out.z3.frozen 1; clear hA4 hF4)
    have hI5 := Lib.hid (show RdI b q2 (q2 + 1) s w (nextP s st1) ⟨fd, o.text, noB, noB, false⟩ (w4.setCell ⟨q2 + 1, 1, none⟩ (.string o.text)) from ⟨hI4.out.pf.write hI4.out.z3 (by decide) hqb3 (by omega), hI4.out.fb.new_ (Nat.le_succ_of_le hwq.out) 1 _, hI4.out.z2.far (Nat.ne_of_lt (Nat.lt_succ_self q2)) _, hI4.out.z3.set_ 1 _⟩)
    obtain ⟨w5, hw5⟩ : ∃ w5, w4.setCell ⟨q2 + 1, 1, none⟩ (.string o.text) = w5 := ⟨_, rfl⟩
    rw [hw5] at hI5
    rw [hw5]
    clear hw5 c1 g1 hI4
    have hpk5 := Lib.hid (peek_f hI5.out.pf)
    rw [hu] at hpk5
    have hneed := Lib.hid (fun W (hp : PF b s W (nextP s st1)) => need_f hp m)
    rw [hx] at hneed
    clear ho hu hx
    go_upto_region 9 with (first
      | (go_at_call 22; refine (hneed.out _ hI6.out.pf).mono ?_; rintro e w7 ⟨rfl, hA7, hF7⟩; have hI7 := Lib.hid (hI6.out.step hA7 hF7 hqb hqb3); clear hA7 hF7; dsimp only [tkV])
      | (go_at_call 20; refine hpk5.out.mono ?_; rintro e w6 ⟨rfl, hA6, hF6⟩; have hI6 := Lib.hid (hI5.out.step hA6 hF6 hqb hqb3); clear hA6 hF6))
    obtain ⟨q7, W7, hq7, hW7, hA8, hF8, hT7, hbq7⟩ := tok_copy (v := .bool true) (e := .returned (.bool true)) hI7.out.pf x
    have hI8 := Lib.hid (hI7.out.step hA8 hF8 hqb hqb3)
    have hq7l : q2 + 1 < q7 := by have := hI7.out.z3.lt; omega
    unfold tkC at hW7
    rw [hW7, hq7]
    have x1 : W7.cell? ⟨q7, 1, none⟩ = some (.string x.text) := hT7.cell 1
    have x3 : W7.cell? ⟨q7, 3, none⟩ = some (.string x.doc) := hT7.cell 3
    have x4 : W7.cell? ⟨q7, 4, none⟩ = some (.bool x.raw) := hT7.cell 4
    have r0 : W7.cell? ⟨q2 + 1, 0, none⟩ = some (.int .i64 fd) := hI8.out.z3.cell 0
    have r1 : W7.cell? ⟨q2 + 1, 1, none⟩ = some (.string o.text) := hI8.out.z3.cell 1
    have r2 : W7.cell? ⟨q2 + 1, 2, none⟩ = some (.string ⟨#[]⟩) := hI8.out.z3.cell 2
    have r3 : W7.cell? ⟨q2 + 1, 3, none⟩ = some (.string ⟨#[]⟩) := hI8.out.z3.cell 3
    have r4 : W7.cell? ⟨q2 + 1, 4, none⟩ = some (.bool false) := hI8.out.z3.cell 4
    have v0 := hI8.out.z3.frozen 0
    have v1 := hI8.out.z3.frozen 1
    have v2 := hI8.out.z3.frozen 2
    have v3 := hI8.out.z3.frozen 3
    have v4 := hI8.out.z3.frozen 4
    have y0 : W7.cell? ⟨q2, 0, none⟩ = some (.int .i64 0) := hI8.out.z2.cell 0
    have y1 : W7.cell? ⟨q2, 1, none⟩ = some (.string ⟨#[]⟩) := hI8.out.z2.cell 1
    have y2 : W7.cell? ⟨q2, 2, none⟩ = some (.string ⟨#[]⟩) := hI8.out.z2.cell 2
    have y3 : W7.cell? ⟨q2, 3, none⟩ = some (.string ⟨#[]⟩) := hI8.out.z2.cell 3
    have y4 : W7.cell? ⟨q2, 4, none⟩ = some (.bool false) := hI8.out.z2.cell 4
    have z0 := hI8.out.z2.frozen 0
    have z1 := hI8.out.z2.frozen 1
    have z2 := hI8.out.z2.frozen 2
    have z3 := hI8.out.z2.frozen 3
    have z4 := hI8.out.z2.frozen 4
    have hqq : ¬ q2 = q2 + 1 := by omega
    have hq73 : ¬ q7 = q2 + 1 := by omega
    have hq37 : ¬ q2 + 1 = q7 := by omega
    have hq72 : ¬ q7 = q2 := by omega
    clear hW7 hq7 hA8 hF8 hT7
    cases h1 : (o.text.toList == [60, 60])
    · cases h2 : (o.text.toList == [60, 60, 45])
      · have hr := Lib.hid (hrp.out.trans (by rw [if_neg (fun k => k.elim (fun k => by rw [k] at h1; cases h1) (fun k => by rw [k] at h2; cases h2))]))
        go_wp2_with fail
        have hI9 := Lib.hid (show RdI b q2 (q2 + 1) s w (needP s m (nextP s st1)) ⟨fd, o.text, x.text, noB, false⟩ (W7.setCell ⟨q2 + 1, 2, none⟩ (.string x.text)) from ⟨hI8.out.pf.write hI8.out.z3 (by decide) hqb3 (by omega), hI8.out.fb.new_ (Nat.le_succ_of_le hwq.out) 2 _, hI8.out.z2.far (Nat.ne_of_lt (Nat.lt_succ_self q2)) _, hI8.out.z3.set_ 2 _⟩)
        refine bodyPost_ret (results_cell_row rfl _ _ q2 50 (rdC5 ⟨fd, o.text, x.text, noB, false⟩) (0, 0) _ rfl (put5_blk hI9.out.z2 _ _ _ _ _) Tryz.underlying50 rfl (by kernel_rfl)) rfl ?_
        exact hI9.out.end_ hqb h216 hwq.out hr.out
      · have hr := Lib.hid (hrp.out.trans (by rw [if_pos (.inr (eq_of_beq h2))]))
        go_upto_region 10 with fail
        have x3d : W7.drew.cell? ⟨q7, 3, none⟩ = some (.string x.doc) := x3
        have x4d : W7.drew.cell? ⟨q7, 4, none⟩ = some (.bool x.raw) := x4
        go_region_held3 (fun Z => Z.cell? ⟨q7, 3, none⟩ = some (.string x.doc) ∧ Z.cell? ⟨q7, 4, none⟩ = some (.bool x.raw)) (first | with_reducible exact ⟨x3d, x4d⟩ | go_keep | fail) (fail)
        have hI9 := hI8.out.three hwq.out hqb3 h216 x.doc x.raw
        obtain ⟨W9, hW9⟩ : ∃ W9, (((W7.setCell ⟨q2 + 1, 1, none⟩ (.string ⟨#[60, 60]⟩)).setCell ⟨q2 + 1, 3, none⟩ (.string x.doc)).setCell ⟨q2 + 1, 4, none⟩ (.bool x.raw)).drew = W9 := ⟨_, rfl⟩
        rw [hW9] at hI9
        rw [hW9]
        clear hW9 r0 r1 r2 r3 r4 v0 v1 v2 v3 v4 y0 y1 y2 y3 y4 z0 z1 z2 z3 z4 x1 x3 x4 x3d x4d
        have r0 : W9.cell? ⟨q2 + 1, 0, none⟩ = some (.int .i64 fd) := hI9.z3.cell 0
        have r1 : W9.cell? ⟨q2 + 1, 1, none⟩ = some (.string ⟨#[60, 60]⟩) := hI9.z3.cell 1
        have r2 : W9.cell? ⟨q2 + 1, 2, none⟩ = some (.string ⟨#[]⟩) := hI9.z3.cell 2
        have r3 : W9.cell? ⟨q2 + 1, 3, none⟩ = some (.string x.doc) := hI9.z3.cell 3
        have r4 : W9.cell? ⟨q2 + 1, 4, none⟩ = some (.bool x.raw) := hI9.z3.cell 4
        have y0 : W9.cell? ⟨q2, 0, none⟩ = some (.int .i64 0) := hI9.z2.cell 0
        have y1 : W9.cell? ⟨q2, 1, none⟩ = some (.string ⟨#[]⟩) := hI9.z2.cell 1
        have y2 : W9.cell? ⟨q2, 2, none⟩ = some (.string ⟨#[]⟩) := hI9.z2.cell 2
        have y3 : W9.cell? ⟨q2, 3, none⟩ = some (.string ⟨#[]⟩) := hI9.z2.cell 3
        have y4 : W9.cell? ⟨q2, 4, none⟩ = some (.bool false) := hI9.z2.cell 4
        have z0 := hI9.z2.frozen 0
        have z1 := hI9.z2.frozen 1
        have z2 := hI9.z2.frozen 2
        have z3 := hI9.z2.frozen 3
        have z4 := hI9.z2.frozen 4
        have hI9H := Lib.hid hI9
        clear hI9
        go_wp2_with fail
        refine bodyPost_ret (results_cell_row rfl _ _ q2 50 (rdC5 ⟨fd, ⟨#[60, 60]⟩, noB, x.doc, x.raw⟩) (0, 0) _ rfl (put5_blk hI9H.out.z2 _ _ _ _ _) Tryz.underlying50 rfl (by kernel_rfl)) rfl ?_
        exact hI9H.out.end_ hqb h216 hwq.out hr.out
    · have hr := Lib.hid (hrp.out.trans (by rw [if_pos (.inl (eq_of_beq h1))]))
      go_upto_region 10 with fail
      have x3d : W7.drew.cell? ⟨q7, 3, none⟩ = some (.string x.doc) := x3
      have x4d : W7.drew.cell? ⟨q7, 4, none⟩ = some (.bool x.raw) := x4
      go_region_held3 (fun Z => Z.cell? ⟨q7, 3, none⟩ = some (.string x.doc) ∧ Z.cell? ⟨q7, 4, none⟩ = some (.bool x.raw)) (first | with_reducible exact ⟨x3d, x4d⟩ | go_keep | fail) (fail)
      have hI9 := hI8.out.three hwq.out hqb3 h216 x.doc x.raw
      obtain ⟨W9, hW9⟩ : ∃ W9, (((W7.setCell ⟨q2 + 1, 1, none⟩ (.string ⟨#[60, 60]⟩)).setCell ⟨q2 + 1, 3, none⟩ (.string x.doc)).setCell ⟨q2 + 1, 4, none⟩ (.bool x.raw)).drew = W9 := ⟨_, rfl⟩
      rw [hW9] at hI9
      rw [hW9]
      clear hW9 r0 r1 r2 r3 r4 v0 v1 v2 v3 v4 y0 y1 y2 y3 y4 z0 z1 z2 z3 z4 x1 x3 x4 x3d x4d
      have r0 : W9.cell? ⟨q2 + 1, 0, none⟩ = some (.int .i64 fd) := hI9.z3.cell 0
      have r1 : W9.cell? ⟨q2 + 1, 1, none⟩ = some (.string ⟨#[60, 60]⟩) := hI9.z3.cell 1
      have r2 : W9.cell? ⟨q2 + 1, 2, none⟩ = some (.string ⟨#[]⟩) := hI9.z3.cell 2
      have r3 : W9.cell? ⟨q2 + 1, 3, none⟩ = some (.string x.doc) := hI9.z3.cell 3
      have r4 : W9.cell? ⟨q2 + 1, 4, none⟩ = some (.bool x.raw) := hI9.z3.cell 4
      have y0 : W9.cell? ⟨q2, 0, none⟩ = some (.int .i64 0) := hI9.z2.cell 0
      have y1 : W9.cell? ⟨q2, 1, none⟩ = some (.string ⟨#[]⟩) := hI9.z2.cell 1
      have y2 : W9.cell? ⟨q2, 2, none⟩ = some (.string ⟨#[]⟩) := hI9.z2.cell 2
      have y3 : W9.cell? ⟨q2, 3, none⟩ = some (.string ⟨#[]⟩) := hI9.z2.cell 3
      have y4 : W9.cell? ⟨q2, 4, none⟩ = some (.bool false) := hI9.z2.cell 4
      have z0 := hI9.z2.frozen 0
      have z1 := hI9.z2.frozen 1
      have z2 := hI9.z2.frozen 2
      have z3 := hI9.z2.frozen 3
      have z4 := hI9.z2.frozen 4
      have hI9H := Lib.hid hI9
      clear hI9
      go_wp2_with fail
      refine bodyPost_ret (results_cell_row rfl _ _ q2 50 (rdC5 ⟨fd, ⟨#[60, 60]⟩, noB, x.doc, x.raw⟩) (0, 0) _ rfl (put5_blk hI9H.out.z2 _ _ _ _ _) Tryz.underlying50 rfl (by kernel_rfl)) rfl ?_
      exact hI9H.out.end_ hqb h216 hwq.out hr.out
end
end Go.Proofs.YtnhbcmhinhncfaaGreatDoor
/- Rows that grow by appends; trees in memory. No condition. -/
namespace Go.Proofs.YtnhbcmhinhncfaaGreatDoor
open Go.RowKit Go.PlainAid
attribute [local go_sem] Oper.semAt_some
set_option linter.unusedVariables false

def Src (w : World) (A : Option Addr) (news : List Value) : Prop := ∀ j u, news[j]? = some u → ∃ ad, A = some ad ∧ w.cell? (ad.add j) = some u

theorem run_app {P : Program} (w : World) (base : Nat) (t ty e : TypeId) (i : TypeInfo) (z : Value) (size bytes : Nat) (ht : P.underlying t = some (.slice e)) (hi : P.info? e = some i) (hz : i.zero = some z)
    (hsize : i.size = size) (hby : i.bytes = bytes) (hzs : z.cells.size = size) (hsz : 0 < size)
    (v : Value) (n : Nat) (xs : List Value) (hown : w.ownsRow base e size v n xs) (A : Option Addr) (m c : Nat) (news : List Value) (hl : news.length = m * size) (hnews : Src w A news) (h1 : ∀ u ∈ news, u.oneCell' = true)
    (h63 : n + m ≤ 200000) (hbytes : (n + m) * bytes ≤ 140737488355328) (hbase : base ≤ w.heap.size) :
    ∃ a' c' w', (Builtin.append_ #[t, t] ty #[v, .slice A m c]).run P w = .ok (.slice a' (n + m) c') w' ∧ w'.ownsRow base e size (.slice a' (n + m) c') (n + m) (xs ++ news) ∧ w.grownBy w' v.ownBlock ∧
      ((Value.slice a' (n + m) c').ownBlock = v.ownBlock ∨ (Value.slice a' (n + m) c').ownBlock = some w.heap.size) := by
  cases A with
  | some ad =>
    obtain ⟨v', w', hr, h2, h3, _, h5⟩ := run_append_own_at (P := P) w base t ty e i z size bytes ht hi hz hsize hby hzs hsz v n xs hown ad m c news hl (fun j u hj => by
      obtain ⟨ad', e', h⟩ := hnews j u hj
      obtain rfl : ad = ad' := Option.some.inj e'
      exact h) h1 (by unfold maxLen; omega) hbytes hbase
    obtain ⟨a', c', rfl⟩ := ownsRow_slice h2
    exact ⟨a', c', w', hr, h2, h3, h5⟩
  | none =>
    have hn : news = [] := by
      cases news with
      | nil => rfl
      | cons u l => obtain ⟨ad, e', _⟩ := hnews 0 u rfl; cases e'
    subst hn
    obtain rfl : m = 0 := by
      rcases Nat.eq_zero_or_pos m with h | h
      · exact h
      · have := Nat.mul_pos h hsz
        simp at hl
        omega
    obtain ⟨a', c', rfl⟩ := ownsRow_slice hown
    have hcap : n ≤ c' := by
      rcases hown.2 with ⟨e', rfl⟩ | ⟨g, cap, cur, e', _, _, hc, _⟩
      · omega
      · obtain ⟨_, rfl⟩ := by simpa using e'
        exact hc
    refine ⟨a', c', w, ?_, by simpa using hown, ⟨rfl, rfl, rfl, Nat.le_refl _, fun _ _ _ => rfl⟩, .inl rfl⟩
    have hiS : (sizeOf e).run P w = .ok size w := by simp [sizeOf, typeInfo, hi, hsize]
    cases a' <;> simp [Builtin.append_, run_underlying ht, hiS, Builtin.lenOf, Builtin.firstCells, hcap, storeCells]

theorem src_row {n₀ size n : Nat} {e : TypeId} {w : World} {A : Option Addr} {c : Nat} {xs : List Value} (h : w.ownsRow n₀ e size (.slice A n c) n xs) : Src w A xs := fun j u hj => by
  rcases h.2 with ⟨e1, h0⟩ | ⟨g, cap, cur, e1, _⟩
  · have := h.1
    rw [h0, Nat.zero_mul] at this
    rw [List.length_eq_zero_iff.1 this] at hj
    simp at hj
  · obtain ⟨rfl, rfl⟩ : A = some ⟨g, 0, none⟩ ∧ c = cap := by simpa using e1
    refine ⟨_, rfl, ?_⟩
    rw [Addr.add_lit]
    have h9 := h.cells (g := g) rfl j u hj
    rwa [Addr.add_lit] at h9
theorem wpList_app {P : Program} {ops : Array Oper} {rest : List Oper} {o : Oper} {a : Act} {w : World} {Q : Exit → Act → World → Prop} (hgd : o.guard = none) (s x : Operand) (t : TypeId)
    (ho : o.op = .call { callee := .builtin .append, args := #[s, x], argTypes := #[t, t] })
    (base : Nat) (e : TypeId) (i : TypeInfo) (z : Value) (size bytes : Nat) (ht : P.underlying t = some (.slice e)) (hi : P.info? e = some i) (hz : i.zero = some z)
    (hsize : i.size = size) (hby : i.bytes = bytes) (hzs : z.cells.size = size) (hsz : 0 < size)
    (v : Value) (n : Nat) (xs : List Value) (hs : a.eval s = v) (hown : w.ownsRow base e size v n xs) (A : Option Addr) (m c : Nat) (news : List Value) (hx : a.eval x = .slice A m c) (hl : news.length = m * size) (hnews : Src w A news) (h1 : ∀ u ∈ news, u.oneCell' = true)
    (h63 : n + m ≤ 200000) (hbytes : (n + m) * bytes ≤ 140737488355328) (hbase : base ≤ w.heap.size)
    (h : ∀ a' c' w', w'.ownsRow base e size (.slice a' (n + m) c') (n + m) (xs ++ news) → w.grownBy w' v.ownBlock → ((Value.slice a' (n + m) c').ownBlock = v.ownBlock ∨ (Value.slice a' (n + m) c').ownBlock = some w.heap.size) → wpList P ops Q rest (a.put o.dst (.slice a' (n + m) c')) w') :
    wpList P ops Q (o :: rest) a w :=
  wpList_plain hgd fun K hK => by
    obtain ⟨a', c', w', hr, h2, h3, h4⟩ := run_app w base t o.type e i z size bytes ht hi hz hsize hby hzs hsz v n xs hown A m c news hl hnews h1 h63 hbytes hbase
    unfold Oper.wp execOp
    simp only [ho, resolve, invoke, builtin, Sem.run_bind, Sem.run_pure, Result.andThen_ok, List.map_toArray, List.map_cons, List.map_nil, hs, hx, hr]
    exact hK _ _ (h a' c' w' h2 h3 h4)
theorem src_blk {w : World} {g : Nat} {t : TypeId} {xs : List Value} (h : Blk w g t xs.toArray) : Src w (some ⟨g, 0, none⟩) xs := fun j u hj => by
  refine ⟨_, rfl, ?_⟩
  rw [Addr.add_lit, h.cell]
  simpa using hj

/-! ### Elements of rows -/
/-- A kind of elements: k cells each; T: the blocks that hold what the cells lead to. -/
structure Elm (X : Type) (k : Nat) where
  at_ : World → (Nat → Prop) → List Value → X → Prop
  keep : ∀ {w w' : World} {T T' : Nat → Prop} {cs : List Value} {x : X}, at_ w T cs x → (∀ g, T g → w'.heap[g]? = w.heap[g]?) → (∀ g, T g → T' g) → at_ w' T' cs x
  len : ∀ {w : World} {T : Nat → Prop} {cs : List Value} {x : X}, at_ w T cs x → cs.length = k
  one : ∀ {w : World} {T : Nat → Prop} {cs : List Value} {x : X}, at_ w T cs x → ∀ u ∈ cs, u.oneCell' = true
def flat (K : Nat → List Value) : Nat → List Value
  | 0 => []
  | n + 1 => flat K n ++ K n
theorem flat_congr {K K' : Nat → List Value} : ∀ n, (∀ i, i < n → K i = K' i) → flat K n = flat K' n
  | 0, _ => rfl
  | n + 1, h => by show flat K n ++ K n = flat K' n ++ K' n; rw [flat_congr n (fun i hi => h i (by omega)), h n (Nat.lt_succ_self n)]
theorem flat_get {K : Nat → List Value} {k : Nat} : ∀ n, (∀ i, i < n → (K i).length = k) → (flat K n).length = n * k ∧ ∀ i, i < n → ∀ j, j < k → (flat K n)[i * k + j]? = (K i)[j]?
  | 0, _ => ⟨by simp [flat], fun i h => absurd h (Nat.not_lt_zero i)⟩
  | n + 1, h => by
    obtain ⟨h1, h2⟩ := flat_get n (fun i hi => h i (by omega))
    have h3 := h n (Nat.lt_succ_self n)
    refine ⟨by show (flat K n ++ K n).length = _; rw [List.length_append, h1, h3, Nat.succ_mul], fun i hi j hj => ?_⟩
    show (flat K n ++ K n)[i * k + j]? = _
    rcases Nat.lt_or_ge i n with hin | hin
    · have : i * k + j < n * k := by
        have h4 : (i + 1) * k ≤ n * k := Nat.mul_le_mul_right k hin
        rw [Nat.succ_mul] at h4
        omega
      rw [List.getElem?_append_left (by omega)]
      exact h2 i hin j hj
    · obtain rfl : i = n := by omega
      rw [List.getElem?_append_right (by omega), h1]
      congr 1
      omega
/-- A row of one's own that is being filled: K i the i-th element's cells, T the elements' blocks. -/
structure RowOf {X : Type} {k : Nat} (E : Elm X k) (ty : TypeId) (n₀ : Nat) (w : World) (T : Nat → Prop) (v : Value) (xs : List X) : Prop where
  row : ∃ K : Nat → List Value, w.ownsRow n₀ ty k v xs.length (flat K xs.length) ∧ ∀ i x, xs[i]? = some x → E.at_ w T (K i) x
  off : ∀ g, v.ownBlock = some g → ¬ T g
  ge : ∀ g, T g → n₀ ≤ g ∧ g < w.heap.size
section
variable {X : Type} {k : Nat} {E : Elm X k} {ty : TypeId} {n₀ : Nat} {w w' : World} {T T' Tx : Nat → Prop} {v : Value} {xs : List X} {x : X} {cx : List Value}
theorem RowOf.nil (E : Elm X k) (ty : TypeId) (n₀ : Nat) (w : World) : RowOf E ty n₀ w (fun _ => False) (.slice none 0 0) [] :=
  ⟨⟨fun _ => [], World.ownsRow_nil _ _ _ _, fun i x h => by simp at h⟩, fun g h => by simp [Value.ownBlock] at h, fun g h => h.elim⟩
theorem RowOf.keep {b : Nat} (h : RowOf E ty n₀ w T v xs) (hf : Fb b w w') (hb : b < n₀) : RowOf E ty n₀ w' T v xs := by
  obtain ⟨K, h1, h2⟩ := h.row
  refine ⟨⟨K, row_keep h1 (fun g hg => hf.block g (row_lt h1 hg) ?_), fun i x hi => E.keep (h2 i x hi) (fun g hg => hf.block g (h.ge g hg).2 ?_) (fun _ h => h)⟩, h.off, fun g hg => ⟨(h.ge g hg).1, Nat.lt_of_lt_of_le (h.ge g hg).2 hf.size⟩⟩
  · have := (h1.lt g hg).1; omega
  · have := (h.ge g hg).1; omega
/-- One element more. -/
theorem RowOf.app {a' : Option Addr} {c' m : Nat} (h : RowOf E ty n₀ w T v xs) (hK : ∃ K : Nat → List Value, w'.ownsRow n₀ ty k (.slice a' m c') m (flat K xs.length ++ cx) ∧ ∀ i x, xs[i]? = some x → E.at_ w T (K i) x) (hm : m = xs.length + 1) (hx : E.at_ w Tx cx x) (hxo : ∀ g, v.ownBlock = some g → ¬ Tx g) (hxg : ∀ g, Tx g → n₀ ≤ g ∧ g < w.heap.size)
    (hg : w.grownBy w' v.ownBlock) (ho : (Value.slice a' m c').ownBlock = v.ownBlock ∨ (Value.slice a' m c').ownBlock = some w.heap.size) : RowOf E ty n₀ w' (fun g => T g ∨ Tx g) (.slice a' m c') (xs ++ [x]) := by
  obtain ⟨K, h1, h2⟩ := hK
  subst hm
  refine ⟨⟨fun i => if i = xs.length then cx else K i, ?_, fun i y hi => ?_⟩, fun g hgo hT => ?_, fun g hT => ?_⟩
  · have e : flat (fun i => if i = xs.length then cx else K i) (xs.length + 1) = flat K xs.length ++ cx := by
      show flat _ xs.length ++ (if xs.length = xs.length then cx else K xs.length) = _
      rw [if_pos rfl, flat_congr xs.length (K' := K) (fun i hi => if_neg (by omega))]
    rw [List.length_append]
    show w'.ownsRow n₀ ty k _ (xs.length + 1) (flat _ (xs.length + 1))
    rw [e]
    exact h1
  · rcases Nat.lt_or_ge i xs.length with hlt | hge
    · rw [List.getElem?_append_left hlt] at hi
      show E.at_ w' _ (if i = xs.length then cx else K i) y
      rw [if_neg (by omega)]
      exact E.keep (h2 i y hi) (fun g hT => hg.block g (h.ge g hT).2 (fun e => h.off g e.symm hT)) (fun g hT => .inl hT)
    · rw [List.getElem?_append_right hge] at hi
      obtain ⟨e1, e2⟩ : i - xs.length = 0 ∧ x = y := by
        cases hd : i - xs.length with
        | zero => rw [hd] at hi; exact ⟨rfl, by simpa using hi⟩
        | succ n => rw [hd] at hi; simp at hi
      subst e2
      show E.at_ w' _ (if i = xs.length then cx else K i) x
      rw [if_pos (by omega)]
      exact E.keep hx (fun g hT => hg.block g (hxg g hT).2 (fun e => hxo g e.symm hT)) (fun g hT => .inr hT)
  · rcases ho with e | e
    · rw [e] at hgo
      rcases hT with hT | hT
      · exact h.off g hgo hT
      · exact hxo g hgo hT
    · rw [e] at hgo
      obtain rfl : w.heap.size = g := by simpa using hgo
      rcases hT with hT | hT
      · have := (h.ge _ hT).2; omega
      · have := (hxg _ hT).2; omega
  · rcases hT with hT | hT
    · exact ⟨(h.ge g hT).1, Nat.lt_of_lt_of_le (h.ge g hT).2 hg.size⟩
    · exact ⟨(hxg g hT).1, Nat.lt_of_lt_of_le (hxg g hT).2 hg.size⟩
end
/-- A row that is done: its own block counts among T's. -/
structure Done {X : Type} {k : Nat} (E : Elm X k) (ty : TypeId) (w : World) (T : Nat → Prop) (v : Value) (xs : List X) : Prop where
  row : ∃ n₀, ∃ K : Nat → List Value, w.ownsRow n₀ ty k v xs.length (flat K xs.length) ∧ ∀ i x, xs[i]? = some x → E.at_ w T (K i) x
  own : ∀ g, v.ownBlock = some g → T g
section
variable {X : Type} {k : Nat} {E : Elm X k} {ty : TypeId} {n₀ : Nat} {w w' : World} {T T' : Nat → Prop} {v : Value} {xs : List X}
theorem RowOf.done (h : RowOf E ty n₀ w T v xs) : Done E ty w (fun g => T g ∨ v.ownBlock = some g) v xs ∧ ∀ g, (T g ∨ v.ownBlock = some g) → n₀ ≤ g ∧ g < w.heap.size := by
  obtain ⟨K, h1, h2⟩ := h.row
  refine ⟨⟨⟨n₀, K, h1, fun i x hi => E.keep (h2 i x hi) (fun _ _ => rfl) (fun g hg => .inl hg)⟩, fun g hg => .inr hg⟩, fun g hg => hg.elim (h.ge g) (fun e => h1.lt g e)⟩
theorem Done.keep (h : Done E ty w T v xs) (hk : ∀ g, T g → w'.heap[g]? = w.heap[g]?) (hT : ∀ g, T g → T' g) : Done E ty w' T' v xs := by
  obtain ⟨n, K, h1, h2⟩ := h.row
  exact ⟨⟨n, K, row_keep h1 (fun g hg => hk g (h.own g hg)), fun i x hi => E.keep (h2 i x hi) hk hT⟩, fun g hg => hT g (h.own g hg)⟩
theorem Done.nil (E : Elm X k) (ty : TypeId) (w : World) (T : Nat → Prop) : Done E ty w T (.slice none 0 0) [] :=
  ⟨⟨0, fun _ => [], World.ownsRow_nil _ _ _ _, fun i x h => by simp at h⟩, fun g h => by simp [Value.ownBlock] at h⟩
end
/-- Texts. -/
def ElS : Elm ByteArray 1 where
  at_ _ _ cs x := cs = [.string x]
  keep h _ _ := h
  len h := by rw [h]; rfl
  one h u hu := by subst h; simp at hu; rw [hu]; rfl
/-- Redirections. -/
def ElR : Elm Rd 5 where
  at_ _ _ cs x := cs = [.int .i64 x.fd, .string x.op, .string x.word, .string x.doc, .bool x.raw]
  keep h _ _ := h
  len h := by rw [h]; rfl
  one h u hu := by subst h; simp at hu; rcases hu with rfl | rfl | rfl | rfl | rfl <;> rfl
/-- Trees. -/
inductive NdAt (w : World) (T : Nat → Prop) : List Value → Nd → Prop where
  | mk {kind : Int} {neg inn : Bool} {name : ByteArray} {ws : List ByteArray} {rs : List Rd} {kids : List Nd} {aw ar ak : Option Addr} {cw cr ck n₀ : Nat} (K : Nat → List Value)
      (hw : Done ElS 9 w T (.slice aw ws.length cw) ws) (hr : Done ElR 50 w T (.slice ar rs.length cr) rs)
      (hrow : w.ownsRow n₀ 30 7 (.slice ak kids.length ck) kids.length (flat K kids.length)) (hown : ∀ g, (Value.slice ak kids.length ck).ownBlock = some g → T g)
      (hk : ∀ i n, kids[i]? = some n → NdAt w T (K i) n) :
      NdAt w T [.int .i64 kind, .bool neg, .bool inn, .string name, .slice aw ws.length cw, .slice ar rs.length cr, .slice ak kids.length ck] (.mk kind neg inn name ws rs kids)
theorem NdAt.keep {w w' : World} {T T' : Nat → Prop} {cs : List Value} {n : Nd} (h : NdAt w T cs n) (hk : ∀ g, T g → w'.heap[g]? = w.heap[g]?) (hT : ∀ g, T g → T' g) : NdAt w' T' cs n := by
  induction h with
  | mk K hw hr hrow hown _ ih => exact .mk K (hw.keep hk hT) (hr.keep hk hT) (row_keep hrow (fun g hg => hk g (hown g hg))) (fun g hg => hT g (hown g hg)) ih
theorem NdAt.len {w : World} {T : Nat → Prop} {cs : List Value} {n : Nd} (h : NdAt w T cs n) : cs.length = 7 := by cases h; rfl
theorem NdAt.one {w : World} {T : Nat → Prop} {cs : List Value} {n : Nd} (h : NdAt w T cs n) : ∀ u ∈ cs, u.oneCell' = true := by
  cases h
  intro u hu
  simp at hu
  rcases hu with rfl | rfl | rfl | rfl | rfl | rfl | rfl <;> rfl
def ElN : Elm Nd 7 where
  at_ := NdAt
  keep := NdAt.keep
  len := NdAt.len
  one := NdAt.one
/-- A tree and a truth. -/
def ElE : Elm (Nd × Bool) 8 where
  at_ w T cs x := ∃ c, NdAt w T c x.1 ∧ cs = c ++ [.bool x.2]
  keep := fun ⟨c, h, e⟩ hk hT => ⟨c, h.keep hk hT, e⟩
  len := fun ⟨c, h, e⟩ => by rw [e, List.length_append, h.len]; rfl
  one := fun ⟨c, h, e⟩ u hu => by
    rw [e] at hu
    rcases List.mem_append.1 hu with hu | hu
    · exact h.one u hu
    · obtain rfl : u = _ := by simpa using hu
      rfl
/-- Two trees. -/
def ElP : Elm (Nd × Nd) 14 where
  at_ w T cs x := ∃ c d, NdAt w T c x.1 ∧ NdAt w T d x.2 ∧ cs = c ++ d
  keep := fun ⟨c, d, h1, h2, e⟩ hk hT => ⟨c, d, h1.keep hk hT, h2.keep hk hT, e⟩
  len := fun ⟨c, d, h1, h2, e⟩ => by rw [e, List.length_append, h1.len, h2.len]
  one := fun ⟨c, d, h1, h2, e⟩ u hu => by
    rw [e] at hu
    rcases List.mem_append.1 hu with hu | hu
    · exact h1.one u hu
    · exact h2.one u hu
/-- A row of trees that is done makes a tree's kids. -/
theorem NdAt.of {w : World} {T : Nat → Prop} {kind : Int} {neg inn : Bool} {name : ByteArray} {ws : List ByteArray} {rs : List Rd} {kids : List Nd} {aw ar ak : Option Addr} {cw cr ck : Nat}
    (hw : Done ElS 9 w T (.slice aw ws.length cw) ws) (hr : Done ElR 50 w T (.slice ar rs.length cr) rs) (hk : Done ElN 30 w T (.slice ak kids.length ck) kids) :
    NdAt w T [.int .i64 kind, .bool neg, .bool inn, .string name, .slice aw ws.length cw, .slice ar rs.length cr, .slice ak kids.length ck] (.mk kind neg inn name ws rs kids) := by
  obtain ⟨n, K, h1, h2⟩ := hk.row
  exact .mk K hw hr h1 hk.own h2
/-! ### A series -/
section
variable {s : ByteArray} {X : Type} (R : PS → X × PS) (M : X → PS → Bool × PS)
/-- What follows behind one that is read. -/
def serM (x : X) (st : PS) : List X × PS := if (M x st).1 then ser s R M (M x st).2 else ([], (M x st).2)
theorem serP_more (hP : ∀ st, PW s st → PW s (M (R st).1 (R st).2).2) (hd : ∀ st, PW s st → (M (R st).1 (R st).2).1 = true → rem s (M (R st).1 (R st).2).2 < rem s st) : ∀ (f g : Nat) (st : PS), PW s st → rem s st < f → rem s st < g → serP R M f st = serP R M g st
  | 0, g, st, _, h, _ => absurd h (Nat.not_lt_zero _)
  | f + 1, 0, st, _, _, h => absurd h (Nat.not_lt_zero _)
  | f + 1, g + 1, st, hp, h1, h2 => by
    unfold serP
    cases hm : (M (R st).1 (R st).2).1 with
    | false => rfl
    | true =>
      have h3 := hd st hp hm
      rw [serP_more hP hd f g _ (hP st hp) (by omega) (by omega)]
theorem ser_is (hP : ∀ st, PW s st → PW s (M (R st).1 (R st).2).2) (hd : ∀ st, PW s st → (M (R st).1 (R st).2).1 = true → rem s (M (R st).1 (R st).2).2 < rem s st) {st : PS} (hp : PW s st) : ser s R M st = ((R st).1 :: (serM (s := s) R M (R st).1 (R st).2).1, (serM (s := s) R M (R st).1 (R st).2).2) := by
  unfold ser serM
  show serP R M (rem s st + 1) st = _
  unfold serP
  cases hm : (M (R st).1 (R st).2).1 with
  | false => rfl
  | true =>
    have h3 := hd st hp hm
    simp only [if_true]
    rw [show serP R M (rem s st) (M (R st).1 (R st).2).2 = ser s R M (M (R st).1 (R st).2).2 from serP_more R M hP hd _ _ _ (hP st hp) (by omega) (Nat.lt_succ_self _)]
end
end Go.Proofs.YtnhbcmhinhncfaaGreatDoor
/- A series of redirections. Conditions: the parser lies as stated; what reads and what asks on are handed in. -/
namespace Go.Proofs.YtnhbcmhinhncfaaGreatDoor
open Go.RowKit Go.Shelf Go.PlainAid
set_option linter.unusedVariables false
set_option linter.unusedSimpArgs false
attribute [local go_sem] Oper.semAt_some
theorem infoRr : (Tryz.prog.info? 50).map (fun i => (i.zero, i.size, i.bytes)) = some (some (.agg R5), 5, 64) := by kernel_rfl
/-- A new block is a row of one. -/
theorem row_one {w : World} {ty : TypeId} {k n₀ : Nat} {cs : List Value} {q : Nat} (hB : Blk w q ty cs.toArray) (hk : cs.length = k) (hn : n₀ ≤ q) : w.ownsRow n₀ ty k (.slice (some ⟨q, 0, none⟩) 1 1) 1 cs := by
  refine ⟨by omega, .inr ⟨q, 1, cs.toArray, rfl, hn, hB, Nat.le_refl _, by unfold maxLen; omega, by simp [hk], by rw [Nat.one_mul, ← hk]; simp⟩⟩
theorem PF.turned {b : Nat} {s : ByteArray} {st : PS} {W W' : World} (h : PF b s W st) (hs : W.heap.size ≤ W'.heap.size) (hk : ∀ g, g < W.heap.size → (g = b ∨ g < 8 ∨ ∃ cs, Blk W g 58 cs) → W'.heap[g]? = W.heap[g]?) : PF b s W' st := by
  obtain ⟨hp, st0, ⟨a, c, h0⟩, e0⟩ := h
  refine ⟨hp, st0, ⟨a, c, (hk b h0.blk.lt (.inl rfl)).trans h0.blk, ⟨h0.tk.cap, h0.tk.tk, fun hl => ?_, fun g o e hl => ?_⟩, h0.gl.keep hs (fun g h1 => hk g (by have := h0.blk.lt; have := h0.b16; omega) (.inr (.inl h1))), h0.b16, h0.ok⟩, e0⟩
  · obtain ⟨g, o, e, h1, h2, h3⟩ := h0.tk.at_ hl
    have hB := h0.tk.ty g o e hl
    exact ⟨g, o, e, h1, Nat.lt_of_lt_of_le h2 hs, fun i t hi j u hj => (World.cell?_of_block (a := ⟨g, o + i * 5 + j, none⟩) (hk g h2 (.inr (.inr hB)))).trans (h3 i t hi j u hj)⟩
  · obtain ⟨cs2, hB2⟩ := h0.tk.ty g o e hl
    exact ⟨cs2, (hk g hB2.lt (.inr (.inr ⟨cs2, hB2⟩))).trans hB2⟩
/-- An append to a row of one's own leaves the parser. -/
theorem PF.grown {b : Nat} {s : ByteArray} {st : PS} {W W' : World} {n₀ k n : Nat} {ty : TypeId} {v : Value} {l : List Value} (h : PF b s W st) (hr : W.ownsRow n₀ ty k v n l) (ht : ty ≠ 58) (hn : b < n₀) (hg : W.grownBy W' v.ownBlock) : PF b s W' st := by
  have h16 := h.b16
  refine h.turned hg.size (fun g hl hc => hg.block g hl (fun e => ?_))
  have hge := (hr.lt g e.symm).1
  rcases hc with rfl | hc | ⟨cs, hB⟩
  · omega
  · omega
  · exact row_off hB (fun e => ht e.symm) hr e
theorem Fb.grown {b n₀ k n : Nat} {w W W' : World} {ty : TypeId} {v : Value} {l : List Value} (h : Fb b w W) (hr : W.ownsRow n₀ ty k v n l) (hn : w.heap.size ≤ n₀) (hg : W.grownBy W' v.ownBlock) : Fb b w W' :=
  ⟨hg.os.trans h.os, hg.tape.trans h.tape, hg.output.trans h.output, Nat.le_trans h.size hg.size, fun g h1 h2 => (hg.block g (Nat.lt_of_lt_of_le h1 h.size) (fun e => by have := (hr.lt g e.symm).1; omega)).trans (h.block g h1 h2)⟩
theorem RowOf.same {X : Type} {k : Nat} {E : Elm X k} {ty : TypeId} {n₀ : Nat} {w w' : World} {T : Nat → Prop} {v : Value} {xs : List X} (h : RowOf E ty n₀ w T v xs) (hs : w.heap.size ≤ w'.heap.size) (hk : ∀ g, g < w.heap.size → (T g ∨ v.ownBlock = some g) → w'.heap[g]? = w.heap[g]?) : RowOf E ty n₀ w' T v xs := by
  obtain ⟨K, h1, h2⟩ := h.row
  exact ⟨⟨K, row_keep h1 (fun g hg => hk g (row_lt h1 hg) (.inr hg)), fun i x hi => E.keep (h2 i x hi) (fun g hg => hk g (h.ge g hg).2 (.inl hg)) (fun _ h => h)⟩, h.off, fun g hg => ⟨(h.ge g hg).1, Nat.lt_of_lt_of_le (h.ge g hg).2 hs⟩⟩
theorem put5_other (W : World) (q : Nat) (a1 a2 a3 a4 a5 : Value) : ∀ g, g < W.heap.size → g ≠ q → (put5 W q a1 a2 a3 a4 a5).heap[g]? = W.heap[g]? := fun g _ h => put5_far W q a1 a2 a3 a4 a5 h
theorem RowOf.one_ {X : Type} {k : Nat} {E : Elm X k} {ty : TypeId} {n₀ q : Nat} {w : World} {T : Nat → Prop} {x : X} {cx : List Value} (hB : Blk w q ty cx.toArray) (hn : n₀ ≤ q) (hx : E.at_ w T cx x) (hT : ∀ g, T g → n₀ ≤ g ∧ g < w.heap.size ∧ g ≠ q) : RowOf E ty n₀ w T (.slice (some ⟨q, 0, none⟩) 1 1) [x] :=
  ⟨⟨fun _ => cx, row_one hB (E.len hx) hn, fun i y hi => by
    cases i with
    | zero => obtain rfl : x = y := by simpa using hi
              exact hx
    | succ i => simp at hi⟩, fun g hg h => (hT g h).2.2 (by simpa [Value.ownBlock] using hg.symm), fun g h => ⟨(hT g h).1, (hT g h).2.1⟩⟩
section
variable {b : Nat} {s : ByteArray} {w : World} {st : PS} {R : PS → Rd × PS} {M : Rd → PS → Bool × PS}
/-- What holds at the head of the loop. -/
structure SeI (b q5 : Nat) (s : ByteArray) (w : World) (st : PS) (R : PS → Rd × PS) (M : Rd → PS → Bool × PS) (CI : World → Prop) (st0 : PS) (x : Rd) (T : Nat → Prop) (v : Value) (xs : List Rd) (W : World) : Prop where
  pf : PF b s W (R st0).2
  ok0 : PW s st0
  ci : CI W
  fb : Fb b w W
  blk : Blk W q5 50 (rdC5 x)
  row : RowOf ElR 50 w.heap.size W T v xs
  off : v.ownBlock ≠ some q5
  offT : ¬ T q5
  ser : ser s R M st = (xs ++ (serM (s := s) R M x (R st0).2).1, (serM (s := s) R M x (R st0).2).2)
  ln : xs.length + rem s st0 ≤ 140001
  xe : x = (R st0).1
set_option maxRecDepth 100000 in
set_option maxHeartbeats 4000000 in
theorem serR_any (kR kM : Nat) (fi1 ca1 fi2 ca2 : Array Value) (hE1 : Enters Tryz.prog kR) (hE2 : Enters Tryz.prog kM) (CI : World → Prop) (hCI : ∀ W W', CI W → Fb b W W' → CI W')
    (hR : ∀ W st, CI W → PF b s W st → Calls Tryz.prog kR (fi1 ++ ca1) W (An b s W (rdV (R st).1) (R st).2))
    (hM : ∀ W st x, CI W → PF b s W st → Calls Tryz.prog kM (fi2 ++ #[rdV x] ++ ca2) W (An b s W (.bool (M x st).1) (M x st).2))
    (hP : ∀ st, PW s st → PW s (M (R st).1 (R st).2).2) (hd : ∀ st, PW s st → (M (R st).1 (R st).2).1 = true → rem s (M (R st).1 (R st).2).2 < rem s st)
    (h : PF b s w st) (hc : CI w) :
    Calls Tryz.prog 114 #[.func (.func kR) fi1 ca1, .func (.func kM) fi2 ca2] w fun e w' => ∃ a c T, e = .returned (.slice a (ser s R M st).1.length c) ∧ Done ElR 50 w' T (.slice a (ser s R M st).1.length c) (ser s R M st).1 ∧ (∀ g, T g → w.heap.size ≤ g ∧ g < w'.heap.size) ∧ PF b s w' (ser s R M st).2 ∧ Fb b w w' := by
  obtain ⟨i0, hi0, hz0, hz1, hz2⟩ := info_parts infoRr
  have hi0H := Lib.hid hi0
  have hE1' : ∀ (args : Array Value) (w : World), (callFunc kR args).run Tryz.prog w = .ok (.enter kR args) w := hE1
  have hE2' : ∀ (args : Array Value) (w : World), (callFunc kM args).run Tryz.prog w = .ok (.enter kM args) w := hE2
  have hRH := Lib.hid hR
  have hMH := Lib.hid hM
  have hH := Lib.hid h
  have hcH := Lib.hid hc
  have hCIH := Lib.hid hCI
  have hlt := h.lt
  have hPH := Lib.hid hP
  have hdH := Lib.hid hd
  clear hE1 hE2 hR hM h hc hi0 hCI hP hd
  have hr1 := Lib.hid (hRH.out w st hcH.out hH.out)
  obtain ⟨x, hx⟩ : ∃ x, (R st).1 = x := ⟨_, rfl⟩
  rw [hx] at hr1
  go_enter Tryz.func114, Tryz.ntmps114
  go_upto_region 2 with (go_at_fn kR; refine hr1.out.mono ?_; rintro e w1 ⟨rfl, hA1, hF1⟩; have hA1H := Lib.hid hA1; have hF1H := Lib.hid hF1; clear hA1 hF1; dsimp only [rdV])
  obtain ⟨q5, hq5⟩ : ∃ q, w1.heap.size = q := ⟨_, rfl⟩
  obtain ⟨W1, hW1⟩ : ∃ W, w1.alloc (.cells #[.int .i64 x.fd, .string x.op, .string x.word, .string x.doc, .bool x.raw] 50) = W := ⟨_, rfl⟩
  have hs1 : W1.heap.size = q5 + 1 := by rw [← hW1, World.size_alloc, hq5]
  have hb1 : Below w1.heap.size w1 W1 := by rw [← hW1]; exact (Below.refl _ _).alloc (Nat.le_refl _) _
  have hB1 : Blk W1 q5 50 (rdC5 x) := by rw [← hW1, ← hq5]; exact Blk.new _ _ _
  rw [hW1, hq5]
  have hw1s : w.heap.size ≤ q5 := by rw [← hq5]; exact hF1H.out.size
  have x0 : W1.cell? ⟨q5, 0, none⟩ = some (.int .i64 x.fd) := hB1.cell 0
  have x1 : W1.cell? ⟨q5, 1, none⟩ = some (.string x.op) := hB1.cell 1
  have x2 : W1.cell? ⟨q5, 2, none⟩ = some (.string x.word) := hB1.cell 2
  have x3 : W1.cell? ⟨q5, 3, none⟩ = some (.string x.doc) := hB1.cell 3
  have x4 : W1.cell? ⟨q5, 4, none⟩ = some (.bool x.raw) := hB1.cell 4
  have hb1H := Lib.hid hb1
  have hB1H := Lib.hid hB1
  have hs1H := Lib.hid hs1
  clear hW1 hb1 hB1 hq5
  go_wp2_with fail
  go_loopg [6] (rem s st) (fun g v wr => ∃ (st0 : PS) (x : Rd) (T : Nat → Prop) (xs : List Rd), g = rem s st0 ∧ Hid (SeI b q5 s w st R M CI st0 x T v xs wr))
  case atStart =>
    have hb2 : Below W1.heap.size W1 (W1.alloc (.cells #[.int .i64 x.fd, .string x.op, .string x.word, .string x.doc, .bool x.raw] 50)) := (Below.refl _ _).alloc (Nat.le_refl _) _
    have hB2 : Blk (W1.alloc (.cells #[.int .i64 x.fd, .string x.op, .string x.word, .string x.doc, .bool x.raw] 50)) (q5 + 1) 50 (rdC5 x) := by rw [← hs1H.out]; exact Blk.new _ _ _
    have hbb := hF1H.out.trans ((Fb.of_below hb1H.out).trans (Fb.of_below hb2))
    refine ⟨st, x, fun _ => False, [x], rfl, Lib.hid ⟨(hA1H.out.below hb1H.out).below hb2, hH.out.ok, hCIH.out _ _ hcH.out hbb, hbb, hB1H.out.alloc _, RowOf.one_ hB2 (by omega) (show ElR.at_ _ _ [.int .i64 x.fd, .string x.op, .string x.word, .string x.doc, .bool x.raw] x from rfl) (fun g h => h.elim), ?_, fun h => h, ?_, ?_, hx.symm⟩⟩
    · show some (q5 + 1) ≠ some q5
      intro e
      injection e with e
      omega
    · rw [ser_is R M hPH.out hdH.out hH.out.ok, hx]
      rfl
    · have := rem_bd hH.out.ok
      show 1 + rem s st ≤ 140001
      omega
  case round =>
    clear hx hr1 hA1H hF1H hb1H hB1H hs1H x0 x1 x2 x3 x4
    obtain ⟨st0, y, T, xs, hg, hI⟩ := hrel
    have hm := Lib.hid (hMH.out wr (R st0).2 y hI.out.ci hI.out.pf)
    have hser := Lib.hid hI.out.ser
    have hxe := Lib.hid hI.out.xe
    have y0 : wr.cell? ⟨q5, 0, none⟩ = some (.int .i64 y.fd) := hI.out.blk.cell 0
    have y1 : wr.cell? ⟨q5, 1, none⟩ = some (.string y.op) := hI.out.blk.cell 1
    have y2 : wr.cell? ⟨q5, 2, none⟩ = some (.string y.word) := hI.out.blk.cell 2
    have y3 : wr.cell? ⟨q5, 3, none⟩ = some (.string y.doc) := hI.out.blk.cell 3
    have y4 : wr.cell? ⟨q5, 4, none⟩ = some (.bool y.raw) := hI.out.blk.cell 4
    obtain ⟨K, hrow, hat⟩ := hI.out.row.row
    obtain ⟨a, c, rfl⟩ := ownsRow_slice hrow
    have hrowH := Lib.hid hrow
    have hatH := Lib.hid hat
    obtain ⟨mb, hmb⟩ : ∃ v, (M y (R st0).2).1 = v := ⟨_, rfl⟩
    rw [hmb] at hm
    have hln := hI.out.ln
    obtain ⟨n, hn⟩ : ∃ n, xs.length = n := ⟨_, rfl⟩
    have hnH := Lib.hid hn
    rw [hn] at hrowH hln ⊢
    clear hrow hat hn
    cases mb
    · have hs2 := Lib.hid (show ser s R M st = (xs, (M y (R st0).2).2) by
        rw [hser.out]
        unfold serM
        rw [hmb]
        simp)
      clear hmb
      go_wp2_with (go_at_fn kM; refine hm.out.mono ?_; rintro e w2 ⟨rfl, hA2, hF2⟩; have hA2H := Lib.hid hA2; have hF2H := Lib.hid hF2; clear hA2 hF2)
      go_ret
      obtain ⟨hdn, hge⟩ := (hI.out.row.keep hF2H.out (by exact hlt)).done
      rw [hs2.out]
      rw [hnH.out] at hdn ⊢
      exact ⟨a, c, _, rfl, hdn, fun g hg => by rw [hnH.out] at hge; exact hge g hg, hA2H.out, hI.out.fb.trans hF2H.out⟩
    · have hd2 := hdH.out st0 hI.out.ok0 (by rw [← hxe.out]; exact hmb)
      have hp2 := hPH.out st0 hI.out.ok0
      rw [← hxe.out] at hd2 hp2
      have hse2 := Lib.hid (show serM (s := s) R M y (R st0).2 = ser s R M (M y (R st0).2).2 by unfold serM; rw [hmb]; rfl)
      obtain ⟨st2, hst2⟩ : ∃ v, (M y (R st0).2).2 = v := ⟨_, rfl⟩
      rw [hst2] at hm hd2 hp2 hse2
      have hser2 := ser_is R M hPH.out hdH.out hp2
      have hr2 := Lib.hid (fun W hc hp => hRH.out W st2 hc hp)
      obtain ⟨z, hz⟩ : ∃ z, (R st2).1 = z := ⟨_, rfl⟩
      rw [hz] at hr2 hser2
      have hser2H := Lib.hid hser2
      clear hmb hst2 hser2
      have hd2H := Lib.hid hd2
      have hp2H := Lib.hid hp2
      have hzH := Lib.hid hz
      have f0 := hI.out.blk.frozen 0
      have f1 := hI.out.blk.frozen 1
      have f2 := hI.out.blk.frozen 2
      have f3 := hI.out.blk.frozen 3
      have f4 := hI.out.blk.frozen 4
      have hq5b : q5 ≠ b := by omega
      have hq516 : 8 ≤ q5 := by have := hH.out.b16; omega
      clear hd2 hp2 hz
      go_upto_region 4 with (go_at_fn kM; refine hm.out.mono ?_; rintro e w2 ⟨rfl, hA2, hF2⟩; have hA2H := Lib.hid hA2; have hF2H := Lib.hid hF2; clear hA2 hF2)
      have hr3 := Lib.hid (hr2.out w2 (hCIH.out _ _ hI.out.ci hF2H.out) hA2H.out)
      have hB2 := Lib.hid (hF2H.out.blk hI.out.blk hq5b)
      go_upto_region 5 with (go_at_fn kR; refine hr3.out.mono ?_; rintro e w3 ⟨rfl, hA3, hF3⟩; have hA3H := Lib.hid hA3; have hF3H := Lib.hid hF3; have hB3 := Lib.hid (hF3.blk hB2.out hq5b); have k0 : w3.cell? ⟨q5, 0, none⟩ = some (.int .i64 y.fd) := hB3.out.cell 0; have k1 : w3.cell? ⟨q5, 1, none⟩ = some (.string y.op) := hB3.out.cell 1; have k2 : w3.cell? ⟨q5, 2, none⟩ = some (.string y.word) := hB3.out.cell 2; have k3 : w3.cell? ⟨q5, 3, none⟩ = some (.string y.doc) := hB3.out.cell 3; have k4 : w3.cell? ⟨q5, 4, none⟩ = some (.bool y.raw) := hB3.out.cell 4; have g0 := hB3.out.frozen 0; have g1 := hB3.out.frozen 1; have g2 := hB3.out.frozen 2; have g3 := hB3.out.frozen 3; have g4 := hB3.out.frozen 4; clear hA3 hF3; dsimp only [rdV])
      have hrow3 := hI.out.row.keep (hF2H.out.trans hF3H.out) hlt
      have hfb3 := hI.out.fb.trans (hF2H.out.trans hF3H.out)
      have hpf4 := hA3H.out.put5_ hB3.out (by decide) hq5b hq516 (.int .i64 z.fd) (.string z.op) (.string z.word) (.string z.doc) (.bool z.raw)
      have hfb4 := put5_fb hfb3 hw1s (.int .i64 z.fd) (.string z.op) (.string z.word) (.string z.doc) (.bool z.raw)
      have hB4 : Blk (put5 w3 q5 (.int .i64 z.fd) (.string z.op) (.string z.word) (.string z.doc) (.bool z.raw)) q5 50 (rdC5 z) := put5_blk hB3.out _ _ _ _ _
      have hrow4 := hrow3.same (w' := put5 w3 q5 (.int .i64 z.fd) (.string z.op) (.string z.word) (.string z.doc) (.bool z.raw)) (Nat.le_of_eq (put5_size _ _ _ _ _ _ _).symm) (fun g hg hc => put5_other _ _ _ _ _ _ _ g hg (fun e => by
        subst e
        rcases hc with hc | hc
        · exact hI.out.offT hc
        · exact hI.out.off hc))
      obtain ⟨W4, hW4⟩ : ∃ W, put5 w3 q5 (.int .i64 z.fd) (.string z.op) (.string z.word) (.string z.doc) (.bool z.raw) = W := ⟨_, rfl⟩
      rw [hW4] at hpf4 hfb4 hB4 hrow4
      unfold put5 at hW4
      rw [hW4]
      clear hW4 f0 f1 f2 f3 f4 g0 g1 g2 g3 g4 k0 k1 k2 k3 k4 y0 y1 y2 y3 y4 hrow3
      have y0 : W4.cell? ⟨q5, 0, none⟩ = some (.int .i64 z.fd) := hB4.cell 0
      have y1 : W4.cell? ⟨q5, 1, none⟩ = some (.string z.op) := hB4.cell 1
      have y2 : W4.cell? ⟨q5, 2, none⟩ = some (.string z.word) := hB4.cell 2
      have y3 : W4.cell? ⟨q5, 3, none⟩ = some (.string z.doc) := hB4.cell 3
      have y4 : W4.cell? ⟨q5, 4, none⟩ = some (.bool z.raw) := hB4.cell 4
      have hb5 : Below W4.heap.size W4 (W4.alloc (.cells #[.int .i64 z.fd, .string z.op, .string z.word, .string z.doc, .bool z.raw] 50)) := (Below.refl _ _).alloc (Nat.le_refl _) _
      have hrow5 := hrow4.same hb5.size (fun g hg _ => hb5.block g hg)
      have hfb5 := Lib.hid (hfb4.trans (Fb.of_below hb5))
      have hpf5 := Lib.hid (hpf4.below hb5)
      have hB5 := Lib.hid (hB4.alloc (.cells #[.int .i64 z.fd, .string z.op, .string z.word, .string z.doc, .bool z.raw] 50))
      have hsz5 := Lib.hid hfb4.size
      have hB5q := hB4.lt
      have hrow5H := Lib.hid hrow5
      obtain ⟨K5, hown5, hat5⟩ := hrow5.row
      rw [hnH.out] at hown5
      have hown5H := Lib.hid hown5
      have hat5H := Lib.hid hat5
      clear hrow5 hown5 hat5 hb5 hfb4 hpf4 hB4 hrow4 hfb3
      go_wp2_with (at_builtin; refine wpList_app rfl _ _ 28 rfl w.heap.size 50 i0 _ 5 64 Tryz.underlying28 hi0H.out hz0 hz1 hz2 rfl (by decide) (.slice a n c) n (flat K5 n) (by rfl) hown5H.out (some ⟨W4.heap.size, 0, none⟩) 1 1 [.int .i64 z.fd, .string z.op, .string z.word, .string z.doc, .bool z.raw] (by rfl) (by rfl) (src_blk (Blk.new W4 _ _)) (by intro u hu; simp at hu; rcases hu with rfl | rfl | rfl | rfl | rfl <;> rfl) (by omega) (by omega) (Nat.le_trans hsz5.out (by rw [World.size_alloc]; exact Nat.le_succ _)) ?_; intro a6 c6 w6 hown6 hg6 ho6)
      have hnew := hrow5H.out.app (Tx := fun _ => False) (x := z) (a' := a6) (c' := c6) (m := n + 1) (w' := w6) (cx := [.int .i64 z.fd, .string z.op, .string z.word, .string z.doc, .bool z.raw]) ⟨K5, by rw [hnH.out]; exact hown6, hat5H.out⟩ (by rw [hnH.out]) rfl (fun _ _ h => h) (fun g h => h.elim) (by rw [hnH.out]; exact hg6) (by rw [hnH.out]; exact ho6)
      have hq5s : q5 < W4.heap.size := hB5q
      go_roundg (rem s st2)
      case measure => rw [hg]; exact hd2H.out
      case rel =>
        have hoff : (Value.slice a n c).ownBlock ≠ some q5 := by rw [← hnH.out]; exact hI.out.off
        refine ⟨st2, z, _, xs ++ [z], rfl, Lib.hid ⟨hpf5.out.grown hown5H.out (by decide) hlt hg6, hp2H.out, hCIH.out _ _ hcH.out (hfb5.out.grown hown5H.out (Nat.le_refl _) hg6), hfb5.out.grown hown5H.out (Nat.le_refl _) hg6, (hg6.block q5 (by rw [World.size_alloc]; omega) (fun e => hoff e.symm)).trans hB5.out, hnew, fun e => ?_, fun h => h.elim hI.out.offT (fun h => h), ?_, ?_, hzH.out.symm⟩⟩
        · rcases ho6 with h6 | h6
          · exact hoff (h6.symm.trans e)
          · have h7 := h6.symm.trans e
            rw [World.size_alloc] at h7
            injection h7 with h7
            omega
        · rw [hser.out, hse2.out, hser2H.out]
          simp
        · have := hd2H.out
          rw [List.length_append, hnH.out]
          show n + 1 + rem s st2 ≤ 140001
          omega
end
end Go.Proofs.YtnhbcmhinhncfaaGreatDoor
/- What each piece of the plain parser leaves of the text: never more than it met. No condition. -/
namespace Go.Proofs.YtnhbcmhinhncfaaGreatDoor
open Go.RowKit Go.PlainAid
set_option linter.unusedVariables false
/-- The parser's state holds, and no more is left than before. -/
structure Lo (s : ByteArray) (st st' : PS) : Prop where
  ok : PW s st'
  le : rem s st' ≤ rem s st
/-- Less is left, or nothing. -/
structure Lt (s : ByteArray) (st st' : PS) : Prop where
  ok : PW s st'
  lt : rem s st' < rem s st ∨ rem s st' = 0
section
variable {s : ByteArray} {st st' st'' : PS}
theorem Lo.refl (h : PW s st) : Lo s st st := ⟨h, Nat.le_refl _⟩
theorem Lo.trans (h : Lo s st st') (k : Lo s st' st'') : Lo s st st'' := ⟨k.ok, Nat.le_trans k.le h.le⟩
theorem Lt.lo (h : Lt s st st') : Lo s st st' := ⟨h.ok, by rcases h.lt with h | h <;> omega⟩
theorem Lo.lt (h : Lo s st st') (k : Lt s st' st'') : Lt s st st'' := ⟨k.ok, by have := h.le; rcases k.lt with k | k <;> omega⟩
theorem Lt.lo_ (h : Lt s st st') (k : Lo s st' st'') : Lt s st st'' := ⟨k.ok, by have := k.le; rcases h.lt with h | h <;> omega⟩
theorem pos_of_peek (h : PW s st) (hk : (peekP s st).kind ≠ 0) : 0 < rem s st := by have := rem_taken h hk; omega
theorem Lt.less (h : Lt s st st') (hk : (peekP s st').kind ≠ 0) : rem s st' < rem s st := by
  have := pos_of_peek h.ok hk
  rcases h.lt with h | h <;> omega
theorem lo_fill (h : PW s st) : Lo s st (fill s st) := ⟨pw_fill h, (fill_fl h).rem⟩
theorem lo_next (h : PW s st) : Lo s st (nextP s st) := ⟨pw_next h, rem_next h⟩
theorem lt_next (h : PW s st) : Lt s st (nextP s st) := by
  refine ⟨pw_next h, ?_⟩
  by_cases hk : (peekP s st).kind = 0
  · refine .inr ?_
    have hf := fill_fl h
    have ht : (fill s st).toks = [] := by
      cases hl : (fill s st).toks with
      | nil => rfl
      | cons t l =>
        have h1 := (hf.ok.tk t (by rw [hl]; exact List.mem_cons_self ..)).kind.1
        have h2 : (peekP s st).kind = t.kind := by unfold peekP tokP; rw [hl]; rfl
        omega
    have hd := hf.done
    rw [ht] at hd
    have he : (fill s st).ended = true := by simpa using hd
    show (fill s st).toks.tail.length + (if (fill s st).ended then 0 else _) = 0
    rw [ht, he]
    rfl
  · exact .inl (rem_taken h hk)
theorem lo_fail (h : PW s st) (pl e : Int) : Lo s st (failP pl e st) := ⟨pw_fail _ _ h, by rw [rem_fail]; exact Nat.zero_le _⟩
theorem lt_need (h : PW s st) (m : Bool) : Lt s st (needP s m st) := by
  cases m
  · exact ((lo_fill h).trans (lo_fail (pw_fill h) _ _)).lt (lt_next (pw_fail _ _ (pw_fill h)))
  · exact lt_next h
theorem lo_need (h : PW s st) (m : Bool) : Lo s st (needP s m st) := (lt_need h m).lo
theorem lo_newlP : ∀ (f : Nat) (st : PS), PW s st → Lo s st (newlP s f st)
  | 0, st, h => Lo.refl h
  | f + 1, st, h => by
    unfold newlP
    split
    · exact (lo_next h).trans (lo_newlP f _ (pw_next h))
    · exact lo_fill h
theorem lo_newl (h : PW s st) : Lo s st (newl s st) := lo_newlP _ st h
theorem lo_ask (h : PW s st) (d : Int) : Lo s st (askD s d st) := by
  unfold askD
  split
  · exact (lo_fill h).trans (lo_fail (pw_fill h) _ _)
  · exact lo_fill h
theorem lo_took (h : PW s st) (k : Int) (t : List UInt8) : Lo s st (tookP s k t st) := by
  unfold tookP
  split
  · exact lo_next h
  · exact lo_fill h
theorem isT_kind {k : Int} {t : List UInt8} {x : Tk} (h : isT k t x = true) : x.kind = k := by
  unfold isT at h
  rw [Bool.and_eq_true] at h
  exact eq_of_beq h.1
theorem less_took (h : PW s st) {k : Int} (hk : k ≠ 0) {t : List UInt8} (ht : isT k t (peekP s st) = true) : PW s (tookP s k t st) ∧ rem s (tookP s k t st) < rem s st := by
  unfold tookP
  rw [if_pos ht]
  exact ⟨pw_next h, rem_taken h (by rw [isT_kind ht]; exact hk)⟩
theorem redT_kind {t : Tk} (h : redT t = true) : t.kind ≠ 0 := by
  unfold redT at h
  intro e
  rw [e] at h
  simp at h
theorem lo_redNum (h : PW s st) : Lo s st (redNum s st).2 := by
  unfold redNum
  split
  · exact (lo_fill h).trans (lo_need (pw_fill h) _)
  · exact lo_fill h
theorem lt_redP (h : PW s st) : Lt s st (redP s st).2 := by
  have h1 := lo_redNum h
  have h2 := lt_next h1.ok
  exact (h1.lt h2).lo_ (lo_need h2.ok _)
/-- Series. -/
theorem lo_serP {X : Type} {R : PS → X × PS} {M : X → PS → Bool × PS} (h : ∀ st, PW s st → Lo s st (M (R st).1 (R st).2).2) : ∀ (f : Nat) (st : PS), PW s st → Lo s st (serP R M f st).2
  | 0, st, hp => Lo.refl hp
  | f + 1, st, hp => by
    unfold serP
    split
    · exact (h st hp).trans (lo_serP h f _ (h st hp).ok)
    · exact h st hp
theorem lo_ser {X : Type} {R : PS → X × PS} {M : X → PS → Bool × PS} (h : ∀ st, PW s st → Lo s st (M (R st).1 (R st).2).2) (hp : PW s st) : Lo s st (ser s R M st).2 := lo_serP h _ st hp
theorem red_more (h : PW s st) : Lo s st (fill s (redP s st).2) := (lt_redP h).lo.trans (lo_fill (lt_redP h).ok)
theorem red_less (h : PW s st) (hm : redT (peekP s (redP s st).2) = true) : rem s (fill s (redP s st).2) < rem s st := by
  have h1 := lt_redP h
  have h2 := h1.less (redT_kind hm)
  have h3 := (lo_fill h1.ok).le
  omega
theorem lo_reds (h : PW s st) : Lo s st (redsP s st).2 := by
  unfold redsP
  split
  · exact (lo_fill h).trans (lo_ser (fun st hp => red_more hp) (pw_fill h))
  · exact lo_fill h
section
variable {B : Int → PS → Nd × PS} (hB : ∀ (d : Int) (st : PS), PW s st → Lo s st (B d st).2)
include hB
theorem lo_doG (d : Int) (h : PW s st) : Lo s st (doG s B d st).2 := by
  have h1 := lo_need (s := s) h (hasW s [100, 111] st)
  have h2 := hB d _ h1.ok
  exact (h1.trans h2).trans (lo_need h2.ok _)
theorem lo_loop (w : ByteArray) (d : Int) (h : PW s st) : Lo s st (loopP s B w d st).2 := by
  have h1 := hB d _ h
  exact h1.trans (lo_doG hB d h1.ok)
theorem lo_br (d : Int) (h : PW s st) : Lo s st (brP s B d st).2 := by
  have h1 := hB d _ h
  have h2 := lo_need h1.ok (hasW s [116, 104, 101, 110] (B d st).2)
  exact (h1.trans h2).trans (hB d _ h2.ok)
theorem br_more (d : Int) (h : PW s st) : Lo s st (tookP s 1 [101, 108, 105, 102] (brP s B d st).2) := (lo_br hB d h).trans (lo_took (lo_br hB d h).ok _ _)
theorem br_less (d : Int) (h : PW s st) (hm : hasW s [101, 108, 105, 102] (brP s B d st).2 = true) : rem s (tookP s 1 [101, 108, 105, 102] (brP s B d st).2) < rem s st := by
  have h1 := lo_br hB d h
  have h2 := (less_took h1.ok (by decide) hm).2
  have := h1.le
  omega
theorem lo_ch (d : Int) (h : PW s st) : Lo s st (chP s B d st).2 := by
  have h1 := lo_ser (R := brP s B d) (M := fun _ st => (hasW s [101, 108, 105, 102] st, tookP s 1 [101, 108, 105, 102] st)) (fun st hp => br_more hB d hp) h
  unfold chP
  dsimp only
  split
  · have h2 := lo_next h1.ok
    have h3 := hB d _ h2.ok
    exact ((h1.trans h2).trans h3).trans (lo_need h3.ok _)
  · have h2 := lo_fill h1.ok
    exact (h1.trans h2).trans (lo_need h2.ok _)
omit hB in
theorem lo_words : ∀ (f : Nat) (l : List ByteArray) (st : PS), PW s st → Lo s st (wordsP s f l st).2
  | 0, l, st, h => Lo.refl h
  | f + 1, l, st, h => by
    unfold wordsP
    split
    · exact (lo_next h).trans (lo_words f _ _ (pw_next h))
    · exact lo_fill h
theorem lo_for (d : Int) (h : PW s st) : Lo s st (forP s B d st).2 := by
  have h1 := lo_need h ((peekP s st).kind == 1 && W.isName (peekP s st).text)
  have h2 := h1.trans (lo_newl h1.ok)
  have h3 := h2.trans (lo_took h2.ok 1 [105, 110])
  unfold forP
  dsimp only
  split
  · have h4 := h3.trans (lo_words (rem s (tookP s 1 [105, 110] (newl s (needP s ((peekP s st).kind == 1 && W.isName (peekP s st).text) st))) + 1) [] _ h3.ok)
    have h5 := h4.trans (lo_need h4.ok (hasO s [59] (wordsP s (rem s (tookP s 1 [105, 110] (newl s (needP s ((peekP s st).kind == 1 && W.isName (peekP s st).text) st))) + 1) [] (tookP s 1 [105, 110] (newl s (needP s ((peekP s st).kind == 1 && W.isName (peekP s st).text) st)))).2 || (peekP s (wordsP s (rem s (tookP s 1 [105, 110] (newl s (needP s ((peekP s st).kind == 1 && W.isName (peekP s st).text) st))) + 1) [] (tookP s 1 [105, 110] (newl s (needP s ((peekP s st).kind == 1 && W.isName (peekP s st).text) st)))).2).kind == 3))
    have h6 := h5.trans (lo_newl h5.ok)
    exact h6.trans (lo_doG hB d h6.ok)
  · dsimp only
    split
    · have h4 := h3.trans (lo_next h3.ok)
      have h5 := h4.trans (lo_newl h4.ok)
      exact h5.trans (lo_doG hB d h5.ok)
    · have h4 := h3.trans (lo_fill h3.ok)
      exact h4.trans (lo_doG hB d h4.ok)
omit hB in
theorem pat_more (h : PW s st) (m : Bool) : Lo s st (tookP s 2 [124] (needP s m st)) := (lo_need h m).trans (lo_took (lo_need h m).ok _ _)
omit hB in
theorem pat_less (h : PW s st) (m : Bool) (hm : hasO s [124] (needP s m st) = true) : rem s (tookP s 2 [124] (needP s m st)) < rem s st := by
  have h1 := lo_need h m
  have h2 := (less_took h1.ok (by decide) hm).2
  have := h1.le
  omega
omit hB in
theorem lo_pats (h : PW s st) : Lo s st (patsP s st).2 := by
  have h1 := lo_took h 2 [40]
  have h2 := h1.trans (lo_ser (R := fun st => ((needT s ((peekP s st).kind == 1) st).text, needP s ((peekP s st).kind == 1) st)) (M := fun _ st => (hasO s [124] st, tookP s 2 [124] st)) (fun st hp => pat_more hp _) h1.ok)
  exact h2.trans (lo_need h2.ok _)
theorem lo_item (d : Int) (h : PW s st) : Lo s st (itemP s B d st).2 := by
  have h1 := lo_newl h
  have h2 := h1.trans (lo_fill h1.ok)
  unfold itemP
  dsimp only
  split
  · exact h2
  · exact h2.trans (hB d _ h2.ok)
theorem lo_items (d : Int) : ∀ (f : Nat) (ws : List ByteArray) (ks : List Nd) (st : PS), PW s st → Lo s st (itemsP s B d f ws ks st).2.2
  | 0, ws, ks, st, h => Lo.refl h
  | f + 1, ws, ks, st, h => by
    unfold itemsP
    split
    · have h1 := lo_fill h
      have h2 := h1.trans (lo_pats h1.ok)
      have h3 := h2.trans (lo_item hB d h2.ok)
      dsimp only
      split
      · have h4 := h3.trans (lo_next h3.ok)
        have h5 := h4.trans (lo_newl h4.ok)
        exact h5.trans (lo_items d f _ _ _ h5.ok)
      · exact h3.trans (lo_fill h3.ok)
    · exact lo_fill h
theorem lo_case (d : Int) (h : PW s st) : Lo s st (caseP s B d st).2 := by
  have h1 := lo_need h ((peekP s st).kind == 1)
  have h2 := h1.trans (lo_newl h1.ok)
  have h3 := h2.trans (lo_need h2.ok (hasW s [105, 110] (newl s (needP s ((peekP s st).kind == 1) st))))
  have h4 := h3.trans (lo_newl h3.ok)
  have h5 := h4.trans (lo_items hB d (rem s (newl s (needP s (hasW s [105, 110] (newl s (needP s ((peekP s st).kind == 1) st))) (newl s (needP s ((peekP s st).kind == 1) st)))) + 1) [] [] _ h4.ok)
  exact h5.trans (lo_need h5.ok _)
omit hB in
theorem lo_withR {r : Nd × PS} (h : Lo s st r.2) : Lo s st (withR s r).2 := h.trans (lo_reds h.ok)
theorem lo_comp (d : Int) (h : PW s st) : Lo s st (compP s B d st).2 := by
  have h1 := lo_next h
  unfold compP
  split
  · have h2 := h1.trans (hB (d + 1) _ h1.ok)
    exact lo_withR (r := (_, _)) (h2.trans (lo_need h2.ok _))
  · split
    · have h2 := h1.trans (hB (d + 1) _ h1.ok)
      exact lo_withR (r := (_, _)) (h2.trans (lo_need h2.ok _))
    · split
      · exact lo_withR (h1.trans (lo_ch hB _ h1.ok))
      · split
        · exact lo_withR (h1.trans (lo_loop hB _ _ h1.ok))
        · split
          · exact lo_withR (h1.trans (lo_for hB _ h1.ok))
          · split
            · exact lo_withR (h1.trans (lo_case hB _ h1.ok))
            · exact lo_withR (r := (nd0, needP s false st)) (lo_need h _)
theorem lo_fun (name : ByteArray) (d : Int) (h : PW s st) : Lo s st (funP s B name d st).2 := by
  have h1 := lo_next h
  have h2 := h1.trans (lo_need h1.ok (hasO s [41] (nextP s st)))
  have h3 := h2.trans (lo_newl h2.ok)
  have h4 := h3.trans (lo_ask h3.ok (d + 1))
  exact h4.trans (lo_comp hB _ h4.ok)
theorem lo_sim (d : Int) : ∀ (f : Nat) (ws : List ByteArray) (rs : List Rd) (st : PS), PW s st → Lo s st (simP s B d f ws rs st).2
  | 0, ws, rs, st, h => Lo.refl h
  | f + 1, ws, rs, st, h => by
    unfold simP
    split
    · have h1 := (lt_redP h).lo
      exact h1.trans (lo_sim d f _ _ _ h1.ok)
    · split
      · have h1 := lo_need h (!ws.isEmpty || !rsvW (peekP s st).text)
        dsimp only
        split
        · exact h1.trans (lo_fun hB _ _ h1.ok)
        · split
          · have h2 := h1.trans (lo_fill h1.ok)
            exact h2.trans (lo_sim d f _ _ _ h2.ok)
          · exact h1.trans (lo_sim d f _ _ _ h1.ok)
      · dsimp only
        split
        · exact lo_need h _
        · exact lo_fill h
theorem lo_cmd (d : Int) (h : PW s st) : Lo s st (cmdP s B d st).2 := by
  have h1 := lo_fill h
  unfold cmdP
  split
  · exact h1.trans (lo_comp hB _ h1.ok)
  · exact h1.trans (lo_sim hB _ _ _ _ _ h1.ok)
theorem cmd_more (d : Int) (h : PW s st) : Lo s st (if hasO s [124] (cmdP s B d st).2 then newl s (nextP s (cmdP s B d st).2) else fill s (cmdP s B d st).2) := by
  have h1 := lo_cmd hB d h
  split
  · have h2 := h1.trans (lo_next h1.ok)
    exact h2.trans (lo_newl h2.ok)
  · exact h1.trans (lo_fill h1.ok)
theorem cmd_less (d : Int) (h : PW s st) (hm : hasO s [124] (cmdP s B d st).2 = true) : rem s (if hasO s [124] (cmdP s B d st).2 then newl s (nextP s (cmdP s B d st).2) else fill s (cmdP s B d st).2) < rem s st := by
  rw [if_pos hm]
  have h1 := lo_cmd hB d h
  have h2 := rem_taken h1.ok (by rw [isT_kind hm]; decide)
  have h3 := (lo_newl (pw_next h1.ok)).le
  have := h1.le
  omega
theorem lo_pipe (d : Int) (h : PW s st) : Lo s st (pipeP s B d st).2 := by
  have h1 := lo_ask h d
  have h2 := h1.trans (lo_took h1.ok 1 [33])
  exact h2.trans (lo_ser (R := cmdP s B d) (M := fun _ st => (hasO s [124] st, if hasO s [124] st then newl s (nextP s st) else fill s st)) (fun st hp => cmd_more hB d hp) h2.ok)
theorem lo_and (d : Int) : ∀ (f : Nat) (n : Nd) (st : PS), PW s st → Lo s st (andP s B d f n st).2
  | 0, n, st, h => Lo.refl h
  | f + 1, n, st, h => by
    unfold andP
    split
    · have h1 := lo_next h
      have h2 := h1.trans (lo_newl h1.ok)
      have h3 := h2.trans (lo_pipe hB d h2.ok)
      exact h3.trans (lo_and d f _ _ h3.ok)
    · exact lo_fill h
theorem lo_ao (d : Int) (h : PW s st) : Lo s st (aoP s B d st).2 := by
  have h1 := lo_pipe hB d h
  exact h1.trans (lo_and hB d _ _ _ h1.ok)
theorem lo_ent (d : Int) (h : PW s st) : Lo s st (entP s B d st).2 := by
  have h1 := lo_ao hB d h
  unfold entP
  dsimp only
  split
  · exact h1.trans (lo_next h1.ok)
  · exact h1.trans (lo_took h1.ok _ _)
/-- An entry that something parts from what follows took it. -/
theorem ent_less (d : Int) (h : PW s st) (hm : (entP s B d st).1.2 = true) : rem s (entP s B d st).2 < rem s st := by
  have h1 := lo_ao hB d h
  unfold entP at hm ⊢
  dsimp only at hm ⊢
  split
  · rename_i hc
    have h2 := rem_taken h1.ok (by rw [isT_kind hc]; decide)
    have := h1.le
    show rem s (nextP s (aoP s B d st).2) < _
    omega
  · rename_i hc
    rw [if_neg hc] at hm
    have h2 := (less_took h1.ok (by decide) (show isT 2 [59] (peekP s (aoP s B d st).2) = true from hm)).2
    have := h1.le
    show rem s (tookP s 2 [59] (aoP s B d st).2) < _
    omega
/-- What a body's series reads, and how it goes on. -/
def bR (s : ByteArray) (B : Int → PS → Nd × PS) (d : Int) (st : PS) : (Nd × Bool) × PS := (((entP s B d st).1.1, (entP s B d st).1.2 || (peekP s (entP s B d st).2).kind == 3), newl s (entP s B d st).2)
def bM (s : ByteArray) (x : Nd × Bool) (st : PS) : Bool × PS := (x.2 && !closes s st, if x.2 then fill s st else st)
theorem bod_more (d : Int) (h : PW s st) : Lo s st (bM s (bR s B d st).1 (bR s B d st).2).2 := by
  have h1 := lo_ent hB d h
  have h2 := h1.trans (lo_newl h1.ok)
  show Lo s st (if _ then fill s (newl s (entP s B d st).2) else newl s (entP s B d st).2)
  split
  · exact h2.trans (lo_fill h2.ok)
  · exact h2
theorem bod_less (d : Int) (h : PW s st) (hm : (bM s (bR s B d st).1 (bR s B d st).2).1 = true) : rem s (bM s (bR s B d st).1 (bR s B d st).2).2 < rem s st := by
  have h1 := lo_ent hB d h
  have h2 := lo_newl h1.ok
  have h3 := (lo_fill h2.ok).le
  have h4 : rem s (bM s (bR s B d st).1 (bR s B d st).2).2 ≤ rem s (newl s (entP s B d st).2) := by
    show rem s (if _ then fill s (newl s (entP s B d st).2) else newl s (entP s B d st).2) ≤ _
    split
    · exact h3
    · exact Nat.le_refl _
  have hx : ((entP s B d st).1.2 || (peekP s (entP s B d st).2).kind == 3) = true := by
    have h5 : (((entP s B d st).1.2 || (peekP s (entP s B d st).2).kind == 3) && !closes s (newl s (entP s B d st).2)) = true := hm
    rw [Bool.and_eq_true] at h5
    exact h5.1
  rw [Bool.or_eq_true] at hx
  rcases hx with hx | hx
  · have h5 := ent_less hB d h hx
    have := h2.le
    omega
  · have h5 := rem_taken h1.ok (by rw [eq_of_beq hx]; decide)
    have h6 := lo_newl (pw_next h1.ok)
    have h7 := h6.le
    rw [← newl_on h1.ok (eq_of_beq hx)] at h7
    have := h1.le
    omega
theorem lo_bod (d : Int) (h : PW s st) : Lo s st (bodP s B d st).2 := by
  have h1 := lo_newl h
  exact h1.trans (lo_ser (R := bR s B d) (M := bM s) (fun st hp => bod_more hB d hp) h1.ok)
end
end
end Go.Proofs.YtnhbcmhinhncfaaGreatDoor
