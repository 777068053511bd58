/- What ranks an operator; what assigns; what is an operator: contracts. No condition. -/
import Derived.Test.YtjbmpockoicgmaaGreatArM
namespace Go.Proofs.YtjbmpockoicgmaaGreat
open Go.RowKit Go.PlainAid
set_option linter.unusedVariables false
set_option linter.unusedSimpArgs false
attribute [local go_sem] Oper.semAt_some
theorem ret_int {k : IntKind} {a b : Int} (h : a = b) : Ending.returned (.int k a) = .returned (.int k b) := by rw [h]

set_option maxHeartbeats 4000000 in
theorem rank_any (s : ByteArray) (w : World) : Calls Tryz.prog 43 #[.string s] w fun e w' => e = .returned (.int .i64 (rankL s.toList)) ∧ w = w' := by
  cases h0 : (s.toList == [124, 124])
  rotate_left
  · have hr := Lib.hid (show rankL s.toList = 3 by unfold rankL rankT; simp only [List.lookup, h0, Option.getD])
    go_enter Tryz.func43, Tryz.ntmps43
    go_wp2
    go_ret
    rw [hr.out]
    exact ⟨rfl, rfl⟩
  cases h1 : (s.toList == [38, 38])
  rotate_left
  · have hr := Lib.hid (show rankL s.toList = 4 by unfold rankL rankT; simp only [List.lookup, h0, h1, Option.getD])
    go_enter Tryz.func43, Tryz.ntmps43
    go_wp2
    go_ret
    rw [hr.out]
    exact ⟨rfl, rfl⟩
  cases h2 : (s.toList == [124])
  rotate_left
  · have hr := Lib.hid (show rankL s.toList = 5 by unfold rankL rankT; simp only [List.lookup, h0, h1, h2, Option.getD])
    go_enter Tryz.func43, Tryz.ntmps43
    go_wp2
    go_ret
    rw [hr.out]
    exact ⟨rfl, rfl⟩
  cases h3 : (s.toList == [94])
  rotate_left
  · have hr := Lib.hid (show rankL s.toList = 6 by unfold rankL rankT; simp only [List.lookup, h0, h1, h2, h3, Option.getD])
    go_enter Tryz.func43, Tryz.ntmps43
    go_wp2
    go_ret
    rw [hr.out]
    exact ⟨rfl, rfl⟩
  cases h4 : (s.toList == [38])
  rotate_left
  · have hr := Lib.hid (show rankL s.toList = 7 by unfold rankL rankT; simp only [List.lookup, h0, h1, h2, h3, h4, Option.getD])
    go_enter Tryz.func43, Tryz.ntmps43
    go_wp2
    go_ret
    rw [hr.out]
    exact ⟨rfl, rfl⟩
  cases h5 : (s.toList == [61, 61])
  rotate_left
  · have hr := Lib.hid (show rankL s.toList = 8 by unfold rankL rankT; simp only [List.lookup, h0, h1, h2, h3, h4, h5, Option.getD])
    go_enter Tryz.func43, Tryz.ntmps43
    go_wp2
    go_ret
    rw [hr.out]
    exact ⟨rfl, rfl⟩
  cases h6 : (s.toList == [33, 61])
  rotate_left
  · have hr := Lib.hid (show rankL s.toList = 8 by unfold rankL rankT; simp only [List.lookup, h0, h1, h2, h3, h4, h5, h6, Option.getD])
    go_enter Tryz.func43, Tryz.ntmps43
    go_wp2
    go_ret
    rw [hr.out]
    exact ⟨rfl, rfl⟩
  cases h7 : (s.toList == [60])
  rotate_left
  · have hr := Lib.hid (show rankL s.toList = 9 by unfold rankL rankT; simp only [List.lookup, h0, h1, h2, h3, h4, h5, h6, h7, Option.getD])
    go_enter Tryz.func43, Tryz.ntmps43
    go_wp2
    go_ret
    rw [hr.out]
    exact ⟨rfl, rfl⟩
  cases h8 : (s.toList == [60, 61])
  rotate_left
  · have hr := Lib.hid (show rankL s.toList = 9 by unfold rankL rankT; simp only [List.lookup, h0, h1, h2, h3, h4, h5, h6, h7, h8, Option.getD])
    go_enter Tryz.func43, Tryz.ntmps43
    go_wp2
    go_ret
    rw [hr.out]
    exact ⟨rfl, rfl⟩
  cases h9 : (s.toList == [62])
  rotate_left
  · have hr := Lib.hid (show rankL s.toList = 9 by unfold rankL rankT; simp only [List.lookup, h0, h1, h2, h3, h4, h5, h6, h7, h8, h9, Option.getD])
    go_enter Tryz.func43, Tryz.ntmps43
    go_wp2
    go_ret
    rw [hr.out]
    exact ⟨rfl, rfl⟩
  cases h10 : (s.toList == [62, 61])
  rotate_left
  · have hr := Lib.hid (show rankL s.toList = 9 by unfold rankL rankT; simp only [List.lookup, h0, h1, h2, h3, h4, h5, h6, h7, h8, h9, h10, Option.getD])
    go_enter Tryz.func43, Tryz.ntmps43
    go_wp2
    go_ret
    rw [hr.out]
    exact ⟨rfl, rfl⟩
  cases h11 : (s.toList == [60, 60])
  rotate_left
  · have hr := Lib.hid (show rankL s.toList = 10 by unfold rankL rankT; simp only [List.lookup, h0, h1, h2, h3, h4, h5, h6, h7, h8, h9, h10, h11, Option.getD])
    go_enter Tryz.func43, Tryz.ntmps43
    go_wp2
    go_ret
    rw [hr.out]
    exact ⟨rfl, rfl⟩
  cases h12 : (s.toList == [62, 62])
  rotate_left
  · have hr := Lib.hid (show rankL s.toList = 10 by unfold rankL rankT; simp only [List.lookup, h0, h1, h2, h3, h4, h5, h6, h7, h8, h9, h10, h11, h12, Option.getD])
    go_enter Tryz.func43, Tryz.ntmps43
    go_wp2
    go_ret
    rw [hr.out]
    exact ⟨rfl, rfl⟩
  cases h13 : (s.toList == [43])
  rotate_left
  · have hr := Lib.hid (show rankL s.toList = 11 by unfold rankL rankT; simp only [List.lookup, h0, h1, h2, h3, h4, h5, h6, h7, h8, h9, h10, h11, h12, h13, Option.getD])
    go_enter Tryz.func43, Tryz.ntmps43
    go_wp2
    go_ret
    rw [hr.out]
    exact ⟨rfl, rfl⟩
  cases h14 : (s.toList == [45])
  rotate_left
  · have hr := Lib.hid (show rankL s.toList = 11 by unfold rankL rankT; simp only [List.lookup, h0, h1, h2, h3, h4, h5, h6, h7, h8, h9, h10, h11, h12, h13, h14, Option.getD])
    go_enter Tryz.func43, Tryz.ntmps43
    go_wp2
    go_ret
    rw [hr.out]
    exact ⟨rfl, rfl⟩
  cases h15 : (s.toList == [42])
  rotate_left
  · have hr := Lib.hid (show rankL s.toList = 12 by unfold rankL rankT; simp only [List.lookup, h0, h1, h2, h3, h4, h5, h6, h7, h8, h9, h10, h11, h12, h13, h14, h15, Option.getD])
    go_enter Tryz.func43, Tryz.ntmps43
    go_wp2
    go_ret
    rw [hr.out]
    exact ⟨rfl, rfl⟩
  cases h16 : (s.toList == [47])
  rotate_left
  · have hr := Lib.hid (show rankL s.toList = 12 by unfold rankL rankT; simp only [List.lookup, h0, h1, h2, h3, h4, h5, h6, h7, h8, h9, h10, h11, h12, h13, h14, h15, h16, Option.getD])
    go_enter Tryz.func43, Tryz.ntmps43
    go_wp2
    go_ret
    rw [hr.out]
    exact ⟨rfl, rfl⟩
  cases h17 : (s.toList == [37])
  rotate_left
  · have hr := Lib.hid (show rankL s.toList = 12 by unfold rankL rankT; simp only [List.lookup, h0, h1, h2, h3, h4, h5, h6, h7, h8, h9, h10, h11, h12, h13, h14, h15, h16, h17, Option.getD])
    go_enter Tryz.func43, Tryz.ntmps43
    go_wp2
    go_ret
    rw [hr.out]
    exact ⟨rfl, rfl⟩
  · have hr := Lib.hid (show rankL s.toList = 0 by unfold rankL rankT; simp only [List.lookup, h0, h1, h2, h3, h4, h5, h6, h7, h8, h9, h10, h11, h12, h13, h14, h15, h16, h17, Option.getD])
    go_enter Tryz.func43, Tryz.ntmps43
    go_wp2
    go_ret
    rw [hr.out]
    exact ⟨rfl, rfl⟩

set_option maxHeartbeats 4000000 in
theorem isAsg_any (s : ByteArray) (w : World) : Calls Tryz.prog 26 #[.string s] w fun e w' => e = .returned (.bool (asgL s.toList)) ∧ w = w' := by
  cases h0 : (s.toList == [61])
  rotate_left
  · have hr := Lib.hid (show asgL s.toList = true by unfold asgL asgT; simp only [List.any_cons, h0, Bool.true_or, Bool.false_or])
    go_enter Tryz.func26, Tryz.ntmps26
    go_wp2
    go_ret
    rw [hr.out]
    exact ⟨rfl, rfl⟩
  cases h1 : (s.toList == [42, 61])
  rotate_left
  · have hr := Lib.hid (show asgL s.toList = true by unfold asgL asgT; simp only [List.any_cons, h0, h1, Bool.true_or, Bool.false_or])
    go_enter Tryz.func26, Tryz.ntmps26
    go_wp2
    go_ret
    rw [hr.out]
    exact ⟨rfl, rfl⟩
  cases h2 : (s.toList == [47, 61])
  rotate_left
  · have hr := Lib.hid (show asgL s.toList = true by unfold asgL asgT; simp only [List.any_cons, h0, h1, h2, Bool.true_or, Bool.false_or])
    go_enter Tryz.func26, Tryz.ntmps26
    go_wp2
    go_ret
    rw [hr.out]
    exact ⟨rfl, rfl⟩
  cases h3 : (s.toList == [37, 61])
  rotate_left
  · have hr := Lib.hid (show asgL s.toList = true by unfold asgL asgT; simp only [List.any_cons, h0, h1, h2, h3, Bool.true_or, Bool.false_or])
    go_enter Tryz.func26, Tryz.ntmps26
    go_wp2
    go_ret
    rw [hr.out]
    exact ⟨rfl, rfl⟩
  cases h4 : (s.toList == [43, 61])
  rotate_left
  · have hr := Lib.hid (show asgL s.toList = true by unfold asgL asgT; simp only [List.any_cons, h0, h1, h2, h3, h4, Bool.true_or, Bool.false_or])
    go_enter Tryz.func26, Tryz.ntmps26
    go_wp2
    go_ret
    rw [hr.out]
    exact ⟨rfl, rfl⟩
  cases h5 : (s.toList == [45, 61])
  rotate_left
  · have hr := Lib.hid (show asgL s.toList = true by unfold asgL asgT; simp only [List.any_cons, h0, h1, h2, h3, h4, h5, Bool.true_or, Bool.false_or])
    go_enter Tryz.func26, Tryz.ntmps26
    go_wp2
    go_ret
    rw [hr.out]
    exact ⟨rfl, rfl⟩
  cases h6 : (s.toList == [60, 60, 61])
  rotate_left
  · have hr := Lib.hid (show asgL s.toList = true by unfold asgL asgT; simp only [List.any_cons, h0, h1, h2, h3, h4, h5, h6, Bool.true_or, Bool.false_or])
    go_enter Tryz.func26, Tryz.ntmps26
    go_wp2
    go_ret
    rw [hr.out]
    exact ⟨rfl, rfl⟩
  cases h7 : (s.toList == [62, 62, 61])
  rotate_left
  · have hr := Lib.hid (show asgL s.toList = true by unfold asgL asgT; simp only [List.any_cons, h0, h1, h2, h3, h4, h5, h6, h7, Bool.true_or, Bool.false_or])
    go_enter Tryz.func26, Tryz.ntmps26
    go_wp2
    go_ret
    rw [hr.out]
    exact ⟨rfl, rfl⟩
  cases h8 : (s.toList == [38, 61])
  rotate_left
  · have hr := Lib.hid (show asgL s.toList = true by unfold asgL asgT; simp only [List.any_cons, h0, h1, h2, h3, h4, h5, h6, h7, h8, Bool.true_or, Bool.false_or])
    go_enter Tryz.func26, Tryz.ntmps26
    go_wp2
    go_ret
    rw [hr.out]
    exact ⟨rfl, rfl⟩
  cases h9 : (s.toList == [94, 61])
  rotate_left
  · have hr := Lib.hid (show asgL s.toList = true by unfold asgL asgT; simp only [List.any_cons, h0, h1, h2, h3, h4, h5, h6, h7, h8, h9, Bool.true_or, Bool.false_or])
    go_enter Tryz.func26, Tryz.ntmps26
    go_wp2
    go_ret
    rw [hr.out]
    exact ⟨rfl, rfl⟩
  cases h10 : (s.toList == [124, 61])
  rotate_left
  · have hr := Lib.hid (show asgL s.toList = true by unfold asgL asgT; simp only [List.any_cons, h0, h1, h2, h3, h4, h5, h6, h7, h8, h9, h10, Bool.true_or, Bool.false_or])
    go_enter Tryz.func26, Tryz.ntmps26
    go_wp2
    go_ret
    rw [hr.out]
    exact ⟨rfl, rfl⟩
  · have hr := Lib.hid (show asgL s.toList = false by unfold asgL asgT; simp only [List.any_cons, List.any_nil, h0, h1, h2, h3, h4, h5, h6, h7, h8, h9, h10, Bool.or_false])
    go_enter Tryz.func26, Tryz.ntmps26
    go_wp2
    go_ret
    rw [hr.out]
    exact ⟨rfl, rfl⟩

set_option maxHeartbeats 4000000 in
theorem isOne_any (s : ByteArray) (w : World) : Calls Tryz.prog 60 #[.string s] w fun e w' => e = .returned (.bool (oneL s.toList)) ∧ w = w' := by
  cases h0 : (s.toList == [40])
  rotate_left
  · have hr := Lib.hid (show oneL s.toList = true by unfold oneL oneT; simp only [List.any_cons, h0, Bool.true_or, Bool.false_or])
    go_enter Tryz.func60, Tryz.ntmps60
    go_wp2
    go_ret
    rw [hr.out]
    exact ⟨rfl, rfl⟩
  cases h1 : (s.toList == [41])
  rotate_left
  · have hr := Lib.hid (show oneL s.toList = true by unfold oneL oneT; simp only [List.any_cons, h0, h1, Bool.true_or, Bool.false_or])
    go_enter Tryz.func60, Tryz.ntmps60
    go_wp2
    go_ret
    rw [hr.out]
    exact ⟨rfl, rfl⟩
  cases h2 : (s.toList == [63])
  rotate_left
  · have hr := Lib.hid (show oneL s.toList = true by unfold oneL oneT; simp only [List.any_cons, h0, h1, h2, Bool.true_or, Bool.false_or])
    go_enter Tryz.func60, Tryz.ntmps60
    go_wp2
    go_ret
    rw [hr.out]
    exact ⟨rfl, rfl⟩
  cases h3 : (s.toList == [58])
  rotate_left
  · have hr := Lib.hid (show oneL s.toList = true by unfold oneL oneT; simp only [List.any_cons, h0, h1, h2, h3, Bool.true_or, Bool.false_or])
    go_enter Tryz.func60, Tryz.ntmps60
    go_wp2
    go_ret
    rw [hr.out]
    exact ⟨rfl, rfl⟩
  cases h4 : (s.toList == [33])
  rotate_left
  · have hr := Lib.hid (show oneL s.toList = true by unfold oneL oneT; simp only [List.any_cons, h0, h1, h2, h3, h4, Bool.true_or, Bool.false_or])
    go_enter Tryz.func60, Tryz.ntmps60
    go_wp2
    go_ret
    rw [hr.out]
    exact ⟨rfl, rfl⟩
  cases h5 : (s.toList == [126])
  rotate_left
  · have hr := Lib.hid (show oneL s.toList = true by unfold oneL oneT; simp only [List.any_cons, h0, h1, h2, h3, h4, h5, Bool.true_or, Bool.false_or])
    go_enter Tryz.func60, Tryz.ntmps60
    go_wp2
    go_ret
    rw [hr.out]
    exact ⟨rfl, rfl⟩
  · obtain ⟨a, ha⟩ : ∃ a, asgL s.toList = a := ⟨_, rfl⟩
    obtain ⟨r, hr⟩ : ∃ r, rankL s.toList = r := ⟨_, rfl⟩
    have ho := Lib.hid (show oneL s.toList = (a || decide (0 < r)) by unfold oneL oneT; simp only [List.any_cons, List.any_nil, h0, h1, h2, h3, h4, h5, Bool.or_false, Bool.false_or, ha, hr])
    have haH := Lib.hid ha
    have hrH := Lib.hid hr
    clear ha hr
    cases a
    · by_cases h0 : 0 < r
      all_goals
        go_enter Tryz.func60, Tryz.ntmps60
        go_wp2_with (first
          | (go_at_call 26; refine (isAsg_any _ _).mono ?_; rintro e w' ⟨rfl, rfl⟩; rw [haH.out])
          | (go_at_call 43; refine (rank_any _ _).mono ?_; rintro e w' ⟨rfl, rfl⟩; rw [hrH.out]))
        go_ret
        rw [ho.out]
        exact ⟨ret_bool (by simp [h0]), rfl⟩
    · go_enter Tryz.func60, Tryz.ntmps60
      go_wp2_with (first
        | (go_at_call 26; refine (isAsg_any _ _).mono ?_; rintro e w' ⟨rfl, rfl⟩; rw [haH.out])
        | (go_at_call 43; refine (rank_any _ _).mono ?_; rintro e w' ⟨rfl, rfl⟩; rw [hrH.out]))
      go_ret
      rw [ho.out]
      exact ⟨rfl, rfl⟩
end Go.Proofs.YtjbmpockoicgmaaGreat
