/- End of lex: its contract. No condition. -/
import Derived.Test.YtgpkhpheomaiaaaScC
namespace Go.Proofs.Ytgpkhpheomaiaaa
open Go.RowKit Go.PlainAid
attribute [local go_sem] Oper.semAt_some

/-- What End answers in a text, k levels above the deepest. -/
def endM (s : ByteArray) (i k : Nat) (q : Bool) : R3 := if begM s i q then wholeM s k i q else ⟨0, 0, 0⟩

set_option maxHeartbeats 1000000 in
theorem end_any (s : ByteArray) (i k : Nat) (d : Int) (q : Bool) (w : World) (hs : s.size ≤ 65536) (hi : i < s.size) (hd : d + k = 24) (hd0 : 0 ≤ d) :
    Calls Try.prog 49 #[.string s, .int .i64 i, .int .i64 d, .bool q] w fun e w' => e = .returned (endM s i k q).v ∧ w = w' := by
  have hs2 : s.size ≤ 100000 := by omega
  have hd2 : d ≤ 24 := by omega
  have hW := Lib.hid (whole_any s hs2 k d hd hd0)
  clear hd
  cases hb : begM s i q
  · have hr : Hid (endM s i k q = ⟨0, 0, 0⟩) := Lib.hid (by unfold endM; rw [hb]; rfl)
    go_enter Try.func49, Try.ntmps49
    go_wp2_with (go_at_call 55; refine (begins_any s i q _ hs2 hi).mono ?_; rintro e w' ⟨rfl, rfl⟩; rw [hb])
    go_ret3
    rw [hr.out]
    exact ⟨rfl, rfl⟩
  · have hr : Hid (endM s i k q = wholeM s k i q) := Lib.hid (by unfold endM; rw [hb]; rfl)
    go_enter Try.func49, Try.ntmps49
    go_wp2_with (first
      | (go_at_call 55; refine (begins_any s i q _ hs2 hi).mono ?_; rintro e w' ⟨rfl, rfl⟩; rw [hb])
      | (go_at_call 56; refine (hW.out i q _ hi hb).mono ?_; rintro e w' ⟨rfl, rfl⟩))
    go_ret3
    rw [hr.out]
    exact ⟨rfl, rfl⟩

/-- Behind the byte that closes there is room between. -/
theorem loop_ge {p : Nat → R3} {s : ByteArray} {b : Nat} {c : Int} (hp : ∀ i, i < s.size → Good s i (p i)) : ∀ (f i : Nat), (loopM p s b c f i).err = 0 → i < (loopM p s b c f i).next
  | 0, _, e => by cases e
  | f + 1, i, e => by
    rw [loopM] at e ⊢
    split at e
    · rename_i hi
      rw [if_pos hi]
      split at e
      · rename_i h; rw [if_pos h]; exact Nat.lt_succ_self _
      · rename_i h
        rw [if_neg h]
        split at e
        · rename_i he
          rw [if_pos he]
          exact Nat.lt_trans (hp i hi he).1 (loop_ge hp f _ e)
        · exact absurd e ‹_›
    · cases e
theorem cmd_ge {p : Nat → R3} {s : ByteArray} {b : Nat} (hp : ∀ i, i < s.size → Good s i (p i)) : ∀ (f i o : Nat), (cmdM p s b f i o).err = 0 → i < (cmdM p s b f i o).next
  | 0, _, _, e => by cases e
  | f + 1, i, o, e => by
    rw [cmdM] at e ⊢
    split at e
    · rename_i hi
      rw [if_pos hi]
      split at e
      · rename_i h; rw [if_pos h]; exact Nat.lt_trans (Nat.lt_succ_self _) (cmd_ge hp f _ _ e)
      · rename_i h
        rw [if_neg h]
        split at e
        · rename_i h; rw [if_pos h]
          split at e
          · rename_i h; rw [if_pos h]; exact Nat.lt_succ_self _
          · rename_i h; rw [if_neg h]; exact Nat.lt_trans (Nat.lt_succ_self _) (cmd_ge hp f _ _ e)
        · rename_i h
          rw [if_neg h]
          split at e
          · rename_i he
            rw [if_pos he]
            exact Nat.lt_trans (hp i hi he).1 (cmd_ge hp f _ _ e)
          · exact absurd e ‹_›
    · cases e
theorem pIn_good (s : ByteArray) (k : Nat) (q : Bool) : ∀ i, i < s.size → Good s i (pIn s k q i) := fun i hi => pass_good hi (fun _ => whole_good s k i q hi)
theorem sq_ge {s : ByteArray} {i : Nat} (h : (sqM s i).err = 0) : i + 2 ≤ (sqM s i).next := by
  unfold sqM at h ⊢
  split at h
  · rename_i h0; rw [if_pos h0]; show i + 2 ≤ i + 1 + _ + 1; omega
  · cases h
theorem whole_ge (s : ByteArray) (k i : Nat) (q : Bool) (h : (wholeM s k i q).err = 0) : i + 2 ≤ (wholeM s k i q).next := by
  cases h1 : (bt s i == 39)
  · cases k with
    | zero => rw [whole_zero, h1] at h; cases h
    | succ k =>
      cases h2 : (bt s i == 34)
      · cases h3 : (bt s (i + 1) == 40)
        · rw [whole_brace h1 h2 h3] at h ⊢
          have := loop_ge (pIn_good s k q) _ _ h
          omega
        · rw [whole_paren h1 h2 h3] at h ⊢
          have := cmd_ge (pIn_good s k false) _ _ _ h
          omega
      · rw [whole_double h1 h2] at h ⊢
        have := loop_ge (pIn_good s k true) _ _ h
        omega
  · rw [whole_single h1] at h ⊢
    exact sq_ge h
/-- Behind a substitution's two bytes and ahead of the one that closes it there is room, too. -/
theorem cmd_ge2 {p : Nat → R3} {s : ByteArray} {b : Nat} (hp : ∀ i, i < s.size → Good s i (p i)) (f i : Nat) (h40 : (bt s i == 40) = true) (h : (cmdM p s b f i 0).err = 0) : i + 2 ≤ (cmdM p s b f i 0).next := by
  cases f with
  | zero => cases h
  | succ f =>
    by_cases hi : i < s.size
    · rw [cmd_open hi h40] at h ⊢
      exact cmd_ge hp f _ _ h
    · rw [cmd_end hi] at h
      cases h
theorem subst_ge (s : ByteArray) (k i : Nat) (q : Bool) (h1 : (bt s i == 36) = true) (h : (wholeM s k i q).err = 0) : i + 3 ≤ (wholeM s k i q).next := by
  have hb : bt s i = 36 := by simpa using h1
  have h39 : (bt s i == 39) = false := by rw [hb]; rfl
  have h34 : (bt s i == 34) = false := by rw [hb]; rfl
  cases k with
  | zero => rw [whole_zero, h39] at h; cases h
  | succ k =>
    cases h3 : (bt s (i + 1) == 40)
    · rw [whole_brace h39 h34 h3] at h ⊢
      have := loop_ge (pIn_good s k q) _ _ h
      omega
    · rw [whole_paren h39 h34 h3] at h ⊢
      have := cmd_ge2 (pIn_good s k false) _ _ h3 h
      omega
/-- At the deepest level only a quote goes. -/
theorem whole_deep {s : ByteArray} {i : Nat} {q : Bool} (h : (wholeM s 0 i q).err = 0) : (bt s i == 39) = true := by
  rw [whole_zero] at h
  split at h
  · assumption
  · cases h
end Go.Proofs.Ytgpkhpheomaiaaa
