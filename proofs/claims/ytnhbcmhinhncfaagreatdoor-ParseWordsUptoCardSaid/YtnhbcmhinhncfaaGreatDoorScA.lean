/- begins, pass, double, command, parameter, whole, End of lex: contracts over plain functions. No condition. -/
import Derived.Test.YtnhbcmhinhncfaaGreatDoorScM
namespace Go.Proofs.YtnhbcmhinhncfaaGreatDoor
open Go.RowKit Go.PlainAid
attribute [local go_sem] Oper.semAt_some

theorem ret_bool' {a b : Bool} (h : a = b) : Ending.returned (.bool a) = .returned (.bool b) := by rw [h]
abbrev R3.v (r : R3) : Value := .tuple #[.int .i64 r.next, .int .i64 r.place, .int .i64 r.err]
theorem ret_r3 {r : R3} {a b c : Int} (h1 : a = r.next) (h2 : b = r.place) (h3 : c = r.err) : Ending.returned (.tuple #[.int .i64 a, .int .i64 b, .int .i64 c]) = .returned r.v := by rw [h1, h2, h3]

set_option maxHeartbeats 1000000 in
theorem begins_any (s : ByteArray) (i : Nat) (q : Bool) (w : World) (hs : s.size ≤ 100000) (hi : i < s.size) :
    Calls Tryz.prog 82 #[.string s, .int .i64 i, .bool q] w fun e w' => e = .returned (.bool (begM s i q)) ∧ w = w' := by
  have hb := get_bt s
  cases h1 : (bt s i == 39)
  · cases h2 : (bt s i == 34)
    · cases h3 : (bt s i == 36)
      · have hr : Hid (begM s i q = false) := Lib.hid (by unfold begM; rw [h1, h2, h3]; rfl)
        go_enter Tryz.func82, Tryz.ntmps82
        go_wp2
        go_ret
        exact ⟨ret_bool' hr.out.symm, rfl⟩
      · by_cases h4 : i + 1 < s.size
        · cases h5 : (bt s (i + 1) == 40) <;> cases h6 : (bt s (i + 1) == 123)
          all_goals
            have hr : Hid (begM s i q = (((bt s (i + 1) == 40)) || (bt s (i + 1) == 123))) := Lib.hid (by unfold begM; rw [h1, h2, h3, decide_eq_true h4]; rfl)
            rw [h5, h6] at hr
            go_enter Tryz.func82, Tryz.ntmps82
            go_wp2
            go_ret
            exact ⟨ret_bool' hr.out.symm, rfl⟩
        · have hr : Hid (begM s i q = false) := Lib.hid (by unfold begM; rw [h1, h2, h3, decide_eq_false h4]; rfl)
          go_enter Tryz.func82, Tryz.ntmps82
          go_wp2
          go_ret
          exact ⟨ret_bool' hr.out.symm, rfl⟩
    · have hr : Hid (begM s i q = true) := Lib.hid (by unfold begM; rw [h1, h2]; rfl)
      go_enter Tryz.func82, Tryz.ntmps82
      go_wp2
      go_ret
      exact ⟨ret_bool' hr.out.symm, rfl⟩
  · have hr : Hid (begM s i q = !q) := Lib.hid (by unfold begM; rw [h1]; rfl)
    go_enter Tryz.func82, Tryz.ntmps82
    go_wp2
    go_ret
    exact ⟨ret_bool' hr.out.symm, rfl⟩

/-- What whole answers, at depth d. -/
def Whole (s : ByteArray) (d : Int) (wh : Nat → Bool → R3) : Prop := ∀ (i : Nat) (q : Bool) (w : World), i < s.size → begM s i q = true → Calls Tryz.prog 83 #[.string s, .int .i64 i, .int .i64 d, .bool q] w fun e w' => e = .returned (wh i q).v ∧ w = w'

set_option maxHeartbeats 1000000 in
theorem pass_any (s : ByteArray) (d : Int) (wh : Nat → Bool → R3) (hW : Whole s d wh) (i : Nat) (q : Bool) (w : World) (hs : s.size ≤ 100000) (hi : i < s.size) :
    Calls Tryz.prog 69 #[.string s, .int .i64 i, .int .i64 d, .bool q] w fun e w' => e = .returned (passM wh s i q).v ∧ w = w' := by
  have hs0 := hs
  have hb := get_bt s
  cases h1 : (bt s i == 92)
  · cases h2 : (bt s i == 96)
    · cases h3 : begM s i q
      · have hr : Hid (passM wh s i q = ⟨i + 1, 0, 0⟩) := Lib.hid (by unfold passM; rw [h1, h2, h3]; rfl)
        go_enter Tryz.func69, Tryz.ntmps69
        go_wp2_with (go_at_call 82; refine (begins_any s i q _ hs0 hi).mono ?_; rintro e w' ⟨rfl, rfl⟩; rw [h3])
        go_ret3
        rw [hr.out]
        exact ⟨ret_r3 (by simp) rfl rfl, rfl⟩
      · have hr : Hid (passM wh s i q = wh i q) := Lib.hid (by unfold passM; rw [h1, h2, h3]; rfl)
        go_enter Tryz.func69, Tryz.ntmps69
        go_wp2_with (first
          | (go_at_call 82; refine (begins_any s i q _ hs0 hi).mono ?_; rintro e w' ⟨rfl, rfl⟩; rw [h3])
          | (go_at_call 83; refine (hW i q _ hi h3).mono ?_; rintro e w' ⟨rfl, rfl⟩))
        go_ret3
        rw [hr.out]
        exact ⟨rfl, rfl⟩
    · have hr : Hid (passM wh s i q = ⟨0, i, 55⟩) := Lib.hid (by unfold passM; rw [h1, h2]; rfl)
      go_enter Tryz.func69, Tryz.ntmps69
      go_wp2
      go_ret3
      rw [hr.out]
      exact ⟨rfl, rfl⟩
  · have hr : Hid (passM wh s i q = ⟨min (i + 2) s.size, 0, 0⟩) := Lib.hid (by unfold passM; rw [h1]; rfl)
    by_cases h4 : i + 2 ≤ s.size
    · go_enter Tryz.func69, Tryz.ntmps69
      go_wp2
      go_ret3
      rw [hr.out]
      exact ⟨ret_r3 (by simp; omega) rfl rfl, rfl⟩
    · go_enter Tryz.func69, Tryz.ntmps69
      go_wp2
      go_ret3
      rw [hr.out]
      exact ⟨ret_r3 (by show _ = ((min (i + 2) s.size : Nat) : Int); rw [Nat.min_eq_right (by omega)]; omega) rfl rfl, rfl⟩
end Go.Proofs.YtnhbcmhinhncfaaGreatDoor
