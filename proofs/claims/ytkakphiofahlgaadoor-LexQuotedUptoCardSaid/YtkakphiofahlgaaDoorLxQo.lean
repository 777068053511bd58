/- isSafe, Quote of octet. Condition: the library's variable holds a number (Gl). -/
import Derived.Test.YtkakphiofahlgaaDoorLxP
import Derived.Lib.AtoiErrMem
import Derived.Lib.Strings
namespace Go.Proofs.YtkakphiofahlgaaDoor
open Go.RowKit Go.PlainAid
attribute [local go_sem] Oper.semAt_some

def letB (c : Int) : Bool := decide ((65 ≤ c ∧ c ≤ 90) ∨ (97 ≤ c ∧ c ≤ 122))
def digB (c : Int) : Bool := decide (48 ≤ c ∧ c ≤ 57)
theorem letB_of {c : Int} {p : Bool} (h : ((65 ≤ c ∧ c ≤ 90) ∨ (97 ≤ c ∧ c ≤ 122)) ↔ p = true) : letB c = p := by
  unfold letB; cases p <;> simp_all
theorem digB_of {c : Int} {p : Bool} (h : (48 ≤ c ∧ c ≤ 57) ↔ p = true) : digB c = p := by
  unfold digB; cases p <;> simp_all


set_option maxHeartbeats 400000 in
theorem isLetter_any (c : Int) (w : World) : Calls Tryd.prog 27 #[.int .u8 c] w fun e w' => e = .returned (.bool (letB c)) ∧ w = w' := by
  by_cases h1 : 65 ≤ c <;> by_cases h2 : c ≤ 90 <;> by_cases h3 : 97 ≤ c <;> by_cases h4 : c ≤ 122
  all_goals
    go_enter Tryd.func27, Tryd.ntmps27
    go_wp2
    go_ret
    exact ⟨ret_bool (letB_of (by simp; omega)).symm, rfl⟩

set_option maxHeartbeats 400000 in
theorem isDigit_any (c : Int) (w : World) : Calls Tryd.prog 28 #[.int .u8 c] w fun e w' => e = .returned (.bool (digB c)) ∧ w = w' := by
  by_cases h1 : 48 ≤ c <;> by_cases h2 : c ≤ 57
  all_goals
    go_enter Tryd.func28, Tryd.ntmps28
    go_wp2
    go_ret
    exact ⟨ret_bool (digB_of (by simp; omega)).symm, rfl⟩

/-- What the listed variables hold, as far as Quote asks. -/
structure Gl (w : World) : Prop where
  c3 : ∃ m, w.cell? ⟨0, 0, none⟩ = some (.int .i64 m)
theorem Gl.below {w w' : World} {n : Nat} (h : Gl w) (hb : Below n w w') (hn : 0 < n) : Gl w' := by
  obtain ⟨m, e⟩ := h.c3
  exact ⟨m, (hb.cell (p := ⟨0, 0, none⟩) hn).trans e⟩
theorem Gl.size {w : World} (h : Gl w) : 0 < w.heap.size := by
  obtain ⟨m, e⟩ := h.c3
  exact Lib.lt_of_cell e

/-- Where a byte stands among those that need no quotes, beside letters and digits; -1: nowhere. -/
def idx (c : Int) : Int := Lib.indexByte [95, 45, 46, 47, 58, 61, 43, 44, 64, 37] c.toNat.toUInt8
theorem punct_any (c : Int) (w : World) : Calls Tryd.prog 19 #[.string ⟨#[95, 45, 46, 47, 58, 61, 43, 44, 64, 37]⟩, .int .u8 c] w fun e w' => e = .returned (.int .i64 (idx c)) ∧ w = w' :=
  (Tryd.strings_IndexByte _ _ _).mono fun _ _ ⟨he, hw⟩ => ⟨he, hw.symm⟩
def safeOk (s : ByteArray) (k : Nat) : Bool := letB (bt s k) || digB (bt s k) || !decide (idx (bt s k) < 0)
def isSafe (s : ByteArray) : Bool := decide (s.size ≠ 0) && decide (∀ k, k < s.size → safeOk s k = true)
theorem isSafe_yes {s : ByteArray} (h0 : s.size ≠ 0) (h : ∀ k, k < s.size → safeOk s k = true) : isSafe s = true := by
  unfold isSafe; rw [decide_eq_true h0, decide_eq_true h]; rfl
theorem isSafe_bad {s : ByteArray} {k : Nat} (hk : k < s.size) (h : safeOk s k = false) : isSafe s = false := by
  unfold isSafe
  have : ¬ ∀ k, k < s.size → safeOk s k = true := fun g => by rw [g k hk] at h; cases h
  rw [decide_eq_false this]; simp
theorem isSafe_empty {s : ByteArray} (h : s.size = 0) : isSafe s = false := by
  unfold isSafe; simp [h]

set_option maxHeartbeats 1000000 in
theorem isSafe_any (s : ByteArray) (w : World) (hs : s.size ≤ maxLen) : Calls Tryd.prog 16 #[.string s] w fun e w' => e = .returned (.bool (isSafe s)) ∧ w = w' := by
  unfold maxLen at hs
  have hb := get_bt s
  go_enter Tryd.func16, Tryd.ntmps16
  go_wp2
  go_loop [6] (fun i => ∃ k : Nat, k ≤ s.size ∧ i = .int .i64 k ∧ Hid (∀ m, m < k → safeOk s m = true)) (fun i => s.size - (intOf i).toNat)
  case atStart => exact ⟨0, Nat.zero_le _, rfl, Lib.hid (fun m h => absurd h (by omega))⟩
  case round =>
    obtain ⟨k, hk, rfl, hm⟩ := hrel
    by_cases hlt : k < s.size
    · cases hL : letB (bt s k) <;> cases hD : digB (bt s k) <;> cases hI : decide (idx (bt s k) < 0)
      all_goals
        have hn : Hid (safeOk s k = (letB (bt s k) || digB (bt s k) || !decide (idx (bt s k) < 0))) := rfl
        rw [hL, hD, hI] at hn
        go_wp2_with (first
          | (go_at_call 27; refine (isLetter_any _ _).mono ?_; rintro e w' ⟨rfl, rfl⟩)
          | (go_at_call 28; refine (isDigit_any _ _).mono ?_; rintro e w' ⟨rfl, rfl⟩)
          | (go_at_call 19; refine (punct_any _ _).mono ?_; rintro e w' ⟨rfl, rfl⟩))
        first
        | (go_ret
           exact ⟨ret_bool (isSafe_bad hlt hn.out).symm, rfl⟩)
        | (go_round
           case rel => exact ⟨k + 1, by omega, by go_num, Lib.hid (fun m h => by
             by_cases e : m = k
             · subst e; exact hn.out
             · exact hm.out m (by omega))⟩
           case measure => simp [intOf]; omega)
    · obtain rfl : k = s.size := by omega
      by_cases h0 : s.size = 0
      · have e0 := size0 h0
        have hr := Lib.hid (isSafe_empty h0)
        subst e0
        go_wp2
        go_ret
        exact ⟨ret_bool hr.out.symm, rfl⟩
      · have hr := Lib.hid (isSafe_yes h0 hm.out)
        have hne : (!s.toList.isEmpty) = true := str_ne h0
        clear h0
        go_wp2
        go_ret
        exact ⟨ret_bool hr.out.symm, rfl⟩
/-- What Quote puts between its quotes. -/
def qm : List UInt8 → List UInt8
  | [] => []
  | c :: r => (if c = 39 then [39, 92, 39, 39] else [c]) ++ qm r

theorem qm_len (l : List UInt8) : (qm l).length ≤ 4 * l.length := by
  induction l with
  | nil => simp [qm]
  | cons c r ih =>
    unfold qm
    split <;> simp <;> omega

theorem index_39 (r : List UInt8) : Lib.index (39 :: r) [39] = 0 := by
  rw [Lib.index_one]; rfl
theorem index_ne {c : UInt8} (h : c ≠ 39) (r : List UInt8) : Lib.index (c :: r) [39] = if Lib.index r [39] == -1 then -1 else Lib.index r [39] + 1 := by
  rw [Lib.index_one, Lib.index_one, Lib.indexByte, if_neg (by simpa using h)]

theorem replaceK_ne {c : UInt8} (h : c ≠ 39) (new : List UInt8) (k : Nat) (r : List UInt8) : Lib.replaceK [39] new k (c :: r) = c :: Lib.replaceK [39] new k r := by
  cases k with
  | zero => rfl
  | succ k =>
    have g := Lib.index_ge r [39]
    unfold Lib.replaceK
    rw [index_ne h]
    by_cases e : Lib.index r [39] = -1
    · simp [e]
    · obtain ⟨i, hi⟩ : ∃ i : Nat, Lib.index r [39] = i := ⟨(Lib.index r [39]).toNat, by omega⟩
      have e1 : (Lib.index r [39] == -1) = false := by simpa using e
      have e2 : (((i : Int) + 1) == -1) = false := by
        rw [beq_eq_false_iff_ne]; omega
      have e3 : ((i : Int) + 1).toNat = i + 1 := by omega
      have e4 : ((i : Int) == -1) = false := by
        rw [beq_eq_false_iff_ne]; omega
      simp [hi, e2, e3, e4]

theorem count_39 (r : List UInt8) : Lib.count (39 :: r) [39] = 1 + Lib.count r [39] := by
  rw [Lib.count_hit (i := 0) (by decide) (index_39 r)]; rfl
theorem count_ne {c : UInt8} (h : c ≠ 39) (r : List UInt8) : Lib.count (c :: r) [39] = Lib.count r [39] := by
  have g := Lib.index_ge r [39]
  by_cases e : Lib.index r [39] = -1
  · rw [Lib.count_miss e, Lib.count_miss (by rw [index_ne h, e]; rfl)]
  · obtain ⟨i, hi⟩ : ∃ i : Nat, Lib.index r [39] = i := ⟨(Lib.index r [39]).toNat, by omega⟩
    have e4 : ((i : Int) == -1) = false := by
      rw [beq_eq_false_iff_ne]; omega
    rw [Lib.count_hit (i := i) (by decide) hi, Lib.count_hit (i := i + 1) (by decide) (by rw [index_ne h, hi, e4]; rfl)]
    rfl

theorem replace_qm (l : List UInt8) : Lib.replaceAll l [39] [39, 92, 39, 39] = qm l := by
  have : Lib.replaceAll l [39] [39, 92, 39, 39] = Lib.replaceK [39] [39, 92, 39, 39] (Lib.count l [39]) l := by
    unfold Lib.replaceAll Lib.replace Lib.replaceNum
    rw [if_neg (by decide), if_pos (.inl (by decide))]
  rw [this]
  induction l with
  | nil => rfl
  | cons c r ih =>
    have ih := ih (by
      unfold Lib.replaceAll Lib.replace Lib.replaceNum
      rw [if_neg (by decide), if_pos (.inl (by decide))])
    unfold qm
    by_cases h : c = 39
    · subst h
      rw [count_39, Nat.add_comm, Lib.replaceK_hit (i := 0) _ _ _ _ (index_39 r), if_pos rfl, ← ih]
      rfl
    · rw [count_ne h, replaceK_ne h, if_neg h, ih]
      rfl

def qmS (s : ByteArray) : ByteArray := ⟨(qm s.data.toList).toArray⟩
def quoted (s : ByteArray) : ByteArray := ⟨#[39]⟩ ++ qmS s ++ ⟨#[39]⟩
theorem qmS_size (s : ByteArray) : (qmS s).size ≤ 4 * s.size := by
  have : (qmS s).size = (qm s.data.toList).length := by
    show (qm s.data.toList).toArray.size = _
    simp
  rw [this, Lib.size_eq]
  exact qm_len _

set_option maxHeartbeats 400000 in
theorem quote_safe (s : ByteArray) (hs : s.size ≤ maxLen) (w : World) (h : isSafe s = true) : Calls Tryd.prog 11 #[.string s] w fun e w' => e = .returned (.string s) ∧ w = w' := by
  have hf := Lib.hid (isSafe_any s w hs)
  rw [h] at hf
  clear h
  go_enter Tryd.func11, Tryd.ntmps11
  go_wp2_with fail
  refine hf.out.mono ?_
  rintro e w1 ⟨rfl, rfl⟩
  go_wp2
  go_ret
  exact ⟨rfl, rfl⟩

set_option maxHeartbeats 400000 in
theorem quote_not (s : ByteArray) (hs : s.size ≤ 100000000) (w : World) (hg : Gl w) (h : isSafe s = false) :
    Calls Tryd.prog 11 #[.string s] w fun e w' => e = .returned (.string (quoted s)) ∧ Below w.heap.size w w' := by
  have hf := Lib.hid (isSafe_any s w (by unfold maxLen; omega))
  rw [h] at hf
  obtain ⟨m, hm⟩ := hg.c3
  have hr : Hid (Calls Tryd.prog 17 #[.string s, .string ⟨#[39]⟩, .string ⟨#[39, 92, 39, 39]⟩] w fun e w' => e = .returned (.string (qmS s)) ∧ Below w.heap.size w w') :=
    Lib.hid ((Tryd.strings_ReplaceAll s ⟨#[39]⟩ ⟨#[39, 92, 39, 39]⟩ m w (by omega) hm (by decide) (by
      have : (⟨#[39, 92, 39, 39]⟩ : ByteArray).size = 4 := rfl
      have hc : Lib.countB s ⟨#[39]⟩ ≤ s.size + 1 := by
        have := Lib.count_le s.data.toList [39]
        rw [← Lib.size_eq] at this
        exact this
      rw [this]; omega)).mono fun _ _ ⟨he, hb⟩ => ⟨he.trans (congrArg (fun l : List UInt8 => Ending.returned (.string ⟨l.toArray⟩)) (replace_qm s.data.toList)), hb⟩)
  have hz := qmS_size s
  unfold quoted
  generalize hX : qmS s = X at hr hz ⊢
  have z1 : ¬ 9223372036854775807 < 1 + X.size := by omega
  have z2 : ¬ 9223372036854775807 < 1 + X.size + 1 := by omega
  clear h hm hX
  go_enter Tryd.func11, Tryd.ntmps11
  go_wp2_with fail
  refine hf.out.mono ?_
  rintro e w1 ⟨rfl, rfl⟩
  go_wp2_with fail
  refine hr.out.mono ?_
  rintro e w1 ⟨rfl, hb⟩
  have hbH := Lib.hid hb
  clear hb
  go_wp2
  go_ret
  exact ⟨rfl, hbH.out⟩

end Go.Proofs.YtkakphiofahlgaaDoor
