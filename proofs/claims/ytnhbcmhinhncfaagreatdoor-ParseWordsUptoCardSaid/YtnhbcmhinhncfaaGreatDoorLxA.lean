/- What ends a word; digits; operators: plain functions and contracts. No condition. -/
import Derived.Test.YtnhbcmhinhncfaaGreatDoorScC
namespace Go.Proofs.YtnhbcmhinhncfaaGreatDoor
open Go.RowKit Go.PlainAid
attribute [local go_sem] Oper.semAt_some

def endsL : List Int := [32, 9, 10, 38, 59, 124, 60, 62, 40, 41]
def endsM (c : Int) : Bool := endsL.any (fun k => c == k)
theorem ends_yes {c k : Int} (hk : k ∈ endsL) (h : (c == k) = true) : endsM c = true := List.any_eq_true.2 ⟨k, hk, h⟩

set_option maxHeartbeats 1000000 in
theorem endsWord_any (c : Int) (w : World) : Calls Tryz.prog 68 #[.int .u8 c] w fun e w' => e = .returned (.bool (endsM c)) ∧ w = w' := by
  cases h0 : (c == 32)
  rotate_left
  · have hr := Lib.hid (ends_yes (by decide) h0)
    go_enter Tryz.func68, Tryz.ntmps68
    go_wp2
    go_ret
    exact ⟨ret_bool hr.out.symm, rfl⟩
  cases h1 : (c == 9)
  rotate_left
  · have hr := Lib.hid (ends_yes (by decide) h1)
    go_enter Tryz.func68, Tryz.ntmps68
    go_wp2
    go_ret
    exact ⟨ret_bool hr.out.symm, rfl⟩
  cases h2 : (c == 10)
  rotate_left
  · have hr := Lib.hid (ends_yes (by decide) h2)
    go_enter Tryz.func68, Tryz.ntmps68
    go_wp2
    go_ret
    exact ⟨ret_bool hr.out.symm, rfl⟩
  cases h3 : (c == 38)
  rotate_left
  · have hr := Lib.hid (ends_yes (by decide) h3)
    go_enter Tryz.func68, Tryz.ntmps68
    go_wp2
    go_ret
    exact ⟨ret_bool hr.out.symm, rfl⟩
  cases h4 : (c == 59)
  rotate_left
  · have hr := Lib.hid (ends_yes (by decide) h4)
    go_enter Tryz.func68, Tryz.ntmps68
    go_wp2
    go_ret
    exact ⟨ret_bool hr.out.symm, rfl⟩
  cases h5 : (c == 124)
  rotate_left
  · have hr := Lib.hid (ends_yes (by decide) h5)
    go_enter Tryz.func68, Tryz.ntmps68
    go_wp2
    go_ret
    exact ⟨ret_bool hr.out.symm, rfl⟩
  cases h6 : (c == 60)
  rotate_left
  · have hr := Lib.hid (ends_yes (by decide) h6)
    go_enter Tryz.func68, Tryz.ntmps68
    go_wp2
    go_ret
    exact ⟨ret_bool hr.out.symm, rfl⟩
  cases h7 : (c == 62)
  rotate_left
  · have hr := Lib.hid (ends_yes (by decide) h7)
    go_enter Tryz.func68, Tryz.ntmps68
    go_wp2
    go_ret
    exact ⟨ret_bool hr.out.symm, rfl⟩
  cases h8 : (c == 40)
  rotate_left
  · have hr := Lib.hid (ends_yes (by decide) h8)
    go_enter Tryz.func68, Tryz.ntmps68
    go_wp2
    go_ret
    exact ⟨ret_bool hr.out.symm, rfl⟩
  cases h9 : (c == 41)
  rotate_left
  · have hr := Lib.hid (ends_yes (by decide) h9)
    go_enter Tryz.func68, Tryz.ntmps68
    go_wp2
    go_ret
    exact ⟨ret_bool hr.out.symm, rfl⟩
  have hr : Hid (endsM c = false) := Lib.hid (by unfold endsM endsL; simp only [List.any_cons, List.any_nil, h0, h1, h2, h3, h4, h5, h6, h7, h8, h9]; rfl)
  go_enter Tryz.func68, Tryz.ntmps68
  go_wp2
  go_ret
  exact ⟨ret_bool hr.out.symm, rfl⟩

def digM (c : Int) : Bool := !decide (c < 48) && !decide (57 < c)
def digsM (s : ByteArray) : Bool := decide (s.size ≠ 0) && decide (∀ k, k < s.size → digM (bt s k) = true)
theorem digs_yes {s : ByteArray} (h0 : s.size ≠ 0) (h : ∀ k, k < s.size → digM (bt s k) = true) : digsM s = true := by
  unfold digsM; rw [decide_eq_true h0, decide_eq_true h]; rfl
theorem digs_bad {s : ByteArray} {k : Nat} (hk : k < s.size) (h : digM (bt s k) = false) : digsM s = false := by
  unfold digsM
  have : ¬ ∀ k, k < s.size → digM (bt s k) = true := fun g => by rw [g k hk] at h; cases h
  rw [decide_eq_false this]; simp
theorem digs_empty {s : ByteArray} (h : s.size = 0) : digsM s = false := by
  unfold digsM; simp [h]

set_option maxHeartbeats 1000000 in
theorem isDigits_any (s : ByteArray) (w : World) (hs : s.size ≤ 100000) : Calls Tryz.prog 70 #[.string s] w fun e w' => e = .returned (.bool (digsM s)) ∧ w = w' := by
  have hb := get_bt s
  go_enter Tryz.func70, Tryz.ntmps70
  go_wp2
  go_loop [6] (fun i => ∃ k : Nat, k ≤ s.size ∧ i = .int .i64 k ∧ Hid (∀ m, m < k → digM (bt s m) = true)) (fun i => s.size - (intOf i).toNat)
  case atStart => exact ⟨0, Nat.zero_le _, rfl, Lib.hid (fun m h => absurd h (by omega))⟩
  case round =>
    obtain ⟨k, hk, rfl, hm⟩ := hrel
    by_cases hlt : k < s.size
    · cases hL : decide (bt s k < 48) <;> cases hE : decide (57 < bt s k)
      all_goals
        have hn : Hid (digM (bt s k) = (!decide (bt s k < 48) && !decide (57 < bt s k))) := Lib.hid rfl
        rw [hL, hE] at hn
        have hgt : decide (bt s k > 57) = decide (57 < bt s k) := rfl
        rw [hE] at hgt
        go_wp2
        first
        | (go_ret
           exact ⟨ret_bool (digs_bad hlt hn.out).symm, rfl⟩)
        | (go_round
           case rel => exact ⟨k + 1, by omega, by go_num, Lib.hid (fun m h => by
             by_cases e : m = k
             · subst e; exact hn.out
             · exact hm.out m (by omega))⟩
           case measure => simp [intOf]; omega)
    · obtain rfl : k = s.size := by omega
      by_cases h0 : s.size = 0
      · have e0 := size0 h0
        have hr := Lib.hid (digs_empty h0)
        subst e0
        go_wp2
        go_ret
        exact ⟨ret_bool hr.out.symm, rfl⟩
      · have hr := Lib.hid (digs_yes h0 hm.out)
        have hne : (!s.toList.isEmpty) = true := str_ne h0
        clear h0
        go_wp2
        go_ret
        exact ⟨ret_bool hr.out.symm, rfl⟩

def opsL : List (List UInt8) := [[38, 38], [124, 124], [59, 59], [60, 60], [60, 60, 45], [62, 62], [60, 38], [62, 38], [60, 62], [62, 124], [38], [59], [124], [60], [62], [40], [41]]
def isOp (x : ByteArray) : Bool := opsL.contains x.data.toList
def opFrom (s : ByteArray) : Nat → Nat
  | 0 => 0
  | n + 1 => if isOp (s.extract 0 (n + 1)) then n + 1 else opFrom s n
/-- How many bytes the operator has that a text begins with. -/
def opN (s : ByteArray) : Nat := opFrom s (min 3 s.size)
theorem is_op {x : ByteArray} {l : List UInt8} (h : opsL.contains l = true) (hx : (x.toList == l) = true) : isOp x = true := by
  unfold isOp; rw [← Lib.toList_data, eq_of_beq hx]; exact h
theorem op_yes {s x : ByteArray} {n : Nat} (hx : s.extract 0 (n + 1) = x) (h : isOp x = true) : opFrom s (n + 1) = n + 1 := by rw [opFrom, hx, h]; rfl
theorem op_no {s x : ByteArray} {n : Nat} (hx : s.extract 0 (n + 1) = x) (h : isOp x = false) : opFrom s (n + 1) = opFrom s n := by rw [opFrom, hx, h]; rfl
theorem opFrom_le (s : ByteArray) : ∀ n, opFrom s n ≤ n
  | 0 => Nat.le_refl _
  | n + 1 => by
    unfold opFrom
    split
    · exact Nat.le_refl _
    · exact Nat.le_succ_of_le (opFrom_le s n)
theorem opN_le (s : ByteArray) : opN s ≤ s.size := Nat.le_trans (opFrom_le s _) (Nat.min_le_right _ _)

theorem ret_int {a b : Int} (h : a = b) : Ending.returned (.int .i64 a) = .returned (.int .i64 b) := by rw [h]

set_option maxHeartbeats 2000000 in
theorem operator_any (s : ByteArray) (w : World) (hs : s.size ≤ 100000) : Calls Tryz.prog 56 #[.string s] w fun e w' => e = .returned (.int .i64 (opN s)) ∧ w = w' := by
  obtain ⟨m, hm⟩ : ∃ m, min 3 s.size = m := ⟨_, rfl⟩
  have hms : m ≤ s.size := by omega
  go_enter Tryz.func56, Tryz.ntmps56
  go_wp2
  go_loop [3] (fun v => ∃ n : Nat, n ≤ m ∧ v = .int .i64 n ∧ Hid (opN s = opFrom s n)) (fun v => (intOf v).toNat)
  case atStart => exact ⟨m, Nat.le_refl _, by subst hm; exact congrArg (Value.int .i64) (by omega), Lib.hid (by unfold opN; rw [hm])⟩
  case round =>
    obtain ⟨n, hn, rfl, hop⟩ := hrel
    cases n with
    | zero =>
      go_wp2
      go_ret
      exact ⟨ret_int (by rw [hop.out]; rfl), rfl⟩
    | succ n =>
      cases h0 : ((s.extract 0 (n + 1)).toList == [38, 38])
      rotate_left
      · go_wp2
        go_ret
        exact ⟨ret_int (by rw [hop.out, op_yes rfl (is_op (by decide) h0)]; first | rfl | omega), rfl⟩
      cases h1 : ((s.extract 0 (n + 1)).toList == [124, 124])
      rotate_left
      · go_wp2
        go_ret
        exact ⟨ret_int (by rw [hop.out, op_yes rfl (is_op (by decide) h1)]; first | rfl | omega), rfl⟩
      cases h2 : ((s.extract 0 (n + 1)).toList == [59, 59])
      rotate_left
      · go_wp2
        go_ret
        exact ⟨ret_int (by rw [hop.out, op_yes rfl (is_op (by decide) h2)]; first | rfl | omega), rfl⟩
      cases h3 : ((s.extract 0 (n + 1)).toList == [60, 60])
      rotate_left
      · go_wp2
        go_ret
        exact ⟨ret_int (by rw [hop.out, op_yes rfl (is_op (by decide) h3)]; first | rfl | omega), rfl⟩
      cases h4 : ((s.extract 0 (n + 1)).toList == [60, 60, 45])
      rotate_left
      · go_wp2
        go_ret
        exact ⟨ret_int (by rw [hop.out, op_yes rfl (is_op (by decide) h4)]; first | rfl | omega), rfl⟩
      cases h5 : ((s.extract 0 (n + 1)).toList == [62, 62])
      rotate_left
      · go_wp2
        go_ret
        exact ⟨ret_int (by rw [hop.out, op_yes rfl (is_op (by decide) h5)]; first | rfl | omega), rfl⟩
      cases h6 : ((s.extract 0 (n + 1)).toList == [60, 38])
      rotate_left
      · go_wp2
        go_ret
        exact ⟨ret_int (by rw [hop.out, op_yes rfl (is_op (by decide) h6)]; first | rfl | omega), rfl⟩
      cases h7 : ((s.extract 0 (n + 1)).toList == [62, 38])
      rotate_left
      · go_wp2
        go_ret
        exact ⟨ret_int (by rw [hop.out, op_yes rfl (is_op (by decide) h7)]; first | rfl | omega), rfl⟩
      cases h8 : ((s.extract 0 (n + 1)).toList == [60, 62])
      rotate_left
      · go_wp2
        go_ret
        exact ⟨ret_int (by rw [hop.out, op_yes rfl (is_op (by decide) h8)]; first | rfl | omega), rfl⟩
      cases h9 : ((s.extract 0 (n + 1)).toList == [62, 124])
      rotate_left
      · go_wp2
        go_ret
        exact ⟨ret_int (by rw [hop.out, op_yes rfl (is_op (by decide) h9)]; first | rfl | omega), rfl⟩
      cases h10 : ((s.extract 0 (n + 1)).toList == [38])
      rotate_left
      · go_wp2
        go_ret
        exact ⟨ret_int (by rw [hop.out, op_yes rfl (is_op (by decide) h10)]; first | rfl | omega), rfl⟩
      cases h11 : ((s.extract 0 (n + 1)).toList == [59])
      rotate_left
      · go_wp2
        go_ret
        exact ⟨ret_int (by rw [hop.out, op_yes rfl (is_op (by decide) h11)]; first | rfl | omega), rfl⟩
      cases h12 : ((s.extract 0 (n + 1)).toList == [124])
      rotate_left
      · go_wp2
        go_ret
        exact ⟨ret_int (by rw [hop.out, op_yes rfl (is_op (by decide) h12)]; first | rfl | omega), rfl⟩
      cases h13 : ((s.extract 0 (n + 1)).toList == [60])
      rotate_left
      · go_wp2
        go_ret
        exact ⟨ret_int (by rw [hop.out, op_yes rfl (is_op (by decide) h13)]; first | rfl | omega), rfl⟩
      cases h14 : ((s.extract 0 (n + 1)).toList == [62])
      rotate_left
      · go_wp2
        go_ret
        exact ⟨ret_int (by rw [hop.out, op_yes rfl (is_op (by decide) h14)]; first | rfl | omega), rfl⟩
      cases h15 : ((s.extract 0 (n + 1)).toList == [40])
      rotate_left
      · go_wp2
        go_ret
        exact ⟨ret_int (by rw [hop.out, op_yes rfl (is_op (by decide) h15)]; first | rfl | omega), rfl⟩
      cases h16 : ((s.extract 0 (n + 1)).toList == [41])
      rotate_left
      · go_wp2
        go_ret
        exact ⟨ret_int (by rw [hop.out, op_yes rfl (is_op (by decide) h16)]; first | rfl | omega), rfl⟩
      have hno : Hid (isOp (s.extract 0 (n + 1)) = false) := Lib.hid (by unfold isOp opsL; rw [← Lib.toList_data]; simp only [List.contains_cons, h0, h1, h2, h3, h4, h5, h6, h7, h8, h9, h10, h11, h12, h13, h14, h15, h16]; rfl)
      go_wp2
      go_round
      case rel => exact ⟨n, by omega, rfl, Lib.hid (by rw [hop.out, op_no rfl hno.out])⟩
      case measure => simp [intOf]
end Go.Proofs.YtnhbcmhinhncfaaGreatDoor
