/- What is a name. No condition. -/
import Derived.Test.YtjbmpockoicgmaaGreatShelf
import Derived.WalkKit
import Derived.WalkSpells
import Derived.WalkLawsBesides
import Derived.Deep.Draws
import Derived.WalkSmall
import Derived.Deep.QuietTactic
import Derived.BigQuiet
import Derived.Lib.Hide
import Derived.Deep.DeepCutAuto
import Derived.Deep.CutBlock
import Derived.PlainAid
import Derived.Lib.Strings
namespace Go.Proofs.YtjbmpockoicgmaaGreat
open Go.RowKit Go.PlainAid
attribute [local go_sem] Oper.semAt_some

theorem ret_bool {a b : Bool} (h : a = b) : Ending.returned (.bool a) = .returned (.bool b) := by rw [h]
theorem toList_inj {a b : ByteArray} (h : a.toList = b.toList) : a = b := by
  rw [Lib.toList_data, Lib.toList_data] at h
  cases a with
  | mk yd => cases b with
    | mk xd => exact congrArg ByteArray.mk (Array.toList_inj.1 h)
def letB (c : Int) : Bool := decide ((65 ≤ c ∧ c ≤ 90) ∨ (97 ≤ c ∧ c ≤ 122))
def digB (c : Int) : Bool := decide (48 ≤ c ∧ c ≤ 57)
/-- The byte at place k may stand in a name. -/
def nmOk (s : ByteArray) (k : Nat) : Bool := letB (bt s k) || bt s k == 95 || (k != 0 && digB (bt s k))
def isName (s : ByteArray) : Bool := decide (s.size ≠ 0) && decide (∀ k, k < s.size → nmOk s k = true)

theorem letB_of {c : Int} {p : Bool} (h : ((65 ≤ c ∧ c ≤ 90) ∨ (97 ≤ c ∧ c ≤ 122)) ↔ p = true) : letB c = p := by
  unfold letB; cases p <;> simp_all
theorem digB_of {c : Int} {p : Bool} (h : (48 ≤ c ∧ c ≤ 57) ↔ p = true) : digB c = p := by
  unfold digB; cases p <;> simp_all


set_option maxHeartbeats 400000 in
theorem isLetter_any (c : Int) (w : World) : Calls Tryz.prog 69 #[.int .u8 c] w fun e w' => e = .returned (.bool (letB c)) ∧ w = w' := by
  by_cases h1 : 65 ≤ c <;> by_cases h2 : c ≤ 90 <;> by_cases h3 : 97 ≤ c <;> by_cases h4 : c ≤ 122
  all_goals
    go_enter Tryz.func69, Tryz.ntmps69
    go_wp2
    go_ret
    exact ⟨ret_bool (letB_of (by simp; omega)).symm, rfl⟩

set_option maxHeartbeats 400000 in
theorem isDigit_any (c : Int) (w : World) : Calls Tryz.prog 70 #[.int .u8 c] w fun e w' => e = .returned (.bool (digB c)) ∧ w = w' := by
  by_cases h1 : 48 ≤ c <;> by_cases h2 : c ≤ 57
  all_goals
    go_enter Tryz.func70, Tryz.ntmps70
    go_wp2
    go_ret
    exact ⟨ret_bool (digB_of (by simp; omega)).symm, rfl⟩

theorem isName_yes {s : ByteArray} (h0 : s.size ≠ 0) (h : ∀ k, k < s.size → nmOk s k = true) : isName s = true := by
  unfold isName; rw [decide_eq_true h0, decide_eq_true h]; rfl
theorem isName_bad {s : ByteArray} {k : Nat} (hk : k < s.size) (h : nmOk s k = false) : isName s = false := by
  unfold isName
  have : ¬ ∀ k, k < s.size → nmOk s k = true := fun g => by rw [g k hk] at h; cases h
  rw [decide_eq_false this]; simp
theorem isName_empty {s : ByteArray} (h : s.size = 0) : isName s = false := by
  unfold isName; simp [h]

theorem size0 {s : ByteArray} (h : s.size = 0) : s = ⟨#[]⟩ := by
  obtain ⟨⟨l⟩⟩ := s
  cases l with
  | nil => rfl
  | cons a l => simp [ByteArray.size] at h

theorem str_ne {s : ByteArray} (h : s.size ≠ 0) : (!s.toList.isEmpty) = true := by
  rw [Lib.toList_data]
  cases e : s.data.toList with
  | nil =>
    have : s.data.toList.length = 0 := by rw [e]; rfl
    rw [← Lib.size_eq] at this
    exact absurd this h
  | cons a l => rfl

set_option maxHeartbeats 1000000 in
theorem name_any (s : ByteArray) (w : World) (hs : s.size ≤ maxLen) : Calls Tryz.prog 59 #[.string s] w fun e w' => e = .returned (.bool (isName s)) ∧ w = w' := by
  unfold maxLen at hs
  have hb := get_bt s
  go_enter Tryz.func59, Tryz.ntmps59
  go_wp2
  go_loop [6] (fun i => ∃ k : Nat, k ≤ s.size ∧ i = .int .i64 k ∧ Hid (∀ m, m < k → nmOk s m = true)) (fun i => s.size - (intOf i).toNat)
  case atStart => exact ⟨0, Nat.zero_le _, rfl, Lib.hid (fun m h => absurd h (by omega))⟩
  case round =>
    obtain ⟨k, hk, rfl, hm⟩ := hrel
    by_cases hlt : k < s.size
    · cases hL : letB (bt s k) <;> cases hE : (bt s k == 95) <;> cases hK : ((k : Int) == 0) <;> cases hD : digB (bt s k)
      all_goals
        have hn : Hid (nmOk s k = (letB (bt s k) || bt s k == 95 || (!((k : Int) == 0) && digB (bt s k)))) := by
          unfold nmOk
          have : (k != 0) = !((k : Int) == 0) := by
            rw [bne, Bool.not_inj_iff, Bool.eq_iff_iff]; simp
          rw [this]
          exact rfl
        rw [hL, hE, hK, hD] at hn
        have hbn : (bt s k != 95) = !(bt s k == 95) := rfl
        rw [hE] at hbn
        go_wp2_with (first
          | (go_at_call 69; refine (isLetter_any _ _).mono ?_; rintro e w' ⟨rfl, rfl⟩)
          | (go_at_call 70; refine (isDigit_any _ _).mono ?_; rintro e w' ⟨rfl, rfl⟩))
        first
        | (go_ret
           exact ⟨ret_bool (isName_bad hlt hn.out).symm, rfl⟩)
        | (go_round
           case rel => exact ⟨k + 1, by omega, by go_num, Lib.hid (fun m h => by
             by_cases e : m = k
             · subst e; exact hn.out
             · exact hm.out m (by omega))⟩
           case measure => simp [intOf]; omega)
    · obtain rfl : k = s.size := by omega
      by_cases h0 : s.size = 0
      · have e0 := size0 h0
        have hr := Lib.hid (isName_empty h0)
        subst e0
        go_wp2
        go_ret
        exact ⟨ret_bool hr.out.symm, rfl⟩
      · have hr := Lib.hid (isName_yes h0 hm.out)
        have hne : (!s.toList.isEmpty) = true := str_ne h0
        clear h0
        go_wp2
        go_ret
        exact ⟨ret_bool hr.out.symm, rfl⟩
end Go.Proofs.YtjbmpockoicgmaaGreat
