/- The lines of two texts one behind the other; the lines joined are the text: plain mathematics. Condition: the texts have a million bytes at most. -/
import Derived.Test.YtgadnlnclpoeaaaDoorOctR
namespace Go.Proofs.YtgadnlnclpoeaaaDoor
open Go.RowKit Go.Shelf Go.PlainAid

theorem bt_app_l {a b : ByteArray} {k : Nat} (h : k < a.size) : bt (a ++ b) k = bt a k := bt_left b h
theorem bt_app_r (a b : ByteArray) (k : Nat) : bt (a ++ b) (a.size + k) = bt b k := bt_right a b k

/-- A line ends behind the first 10, or with the text. -/
theorem first_ten (s : ByteArray) (f : Nat) : (∃ i, f ≤ i ∧ i < s.size ∧ bt s i = 10 ∧ ∀ j, f ≤ j → j < i → ¬ bt s j = 10) ∨ ∀ j, f ≤ j → j < s.size → ¬ bt s j = 10 := by
  have : ∀ n, (∃ i, f ≤ i ∧ i < n ∧ bt s i = 10 ∧ ∀ j, f ≤ j → j < i → ¬ bt s j = 10) ∨ ∀ j, f ≤ j → j < n → ¬ bt s j = 10 := by
    intro n
    induction n with
    | zero => exact .inr (fun j _ h => absurd h (by omega))
    | succ n ih =>
      rcases ih with ⟨i, h1, h2, h3, h4⟩ | h
      · exact .inl ⟨i, h1, by omega, h3, h4⟩
      · by_cases e : f ≤ n ∧ bt s n = 10
        · exact .inl ⟨n, e.1, by omega, e.2, h⟩
        · refine .inr (fun j h1 h2 h3 => ?_)
          by_cases g : j = n
          · subst g; exact e ⟨h1, h3⟩
          · exact h j h1 (by omega) h3
  exact this s.size

theorem ex_app_l (a b : ByteArray) (k e : Nat) (he : e ≤ a.size) : (a ++ b).extract k e = a.extract k e := by
  rw [Lib.extract_eq, Lib.extract_eq, app_data]
  congr 2
  have h : e ≤ a.data.toList.length := by rw [← Lib.size_eq]; exact he
  by_cases hk : k ≤ e
  · rw [List.drop_append_of_le_length (by omega), List.take_append_of_le_length (by rw [List.length_drop]; omega)]
  · rw [show e - k = 0 by omega, List.take_zero, List.take_zero]
theorem ex_app_r (a b : ByteArray) (k e : Nat) : (a ++ b).extract (a.size + k) (a.size + e) = b.extract k e := by
  rw [Lib.extract_eq, Lib.extract_eq, app_data]
  congr 2
  rw [Lib.size_eq a, List.drop_append, show a.data.toList.length + e - (a.data.toList.length + k) = e - k by omega]
  rw [List.drop_eq_nil_of_le (by omega), List.nil_append, show a.data.toList.length + k - a.data.toList.length = k by omega]

theorem lineEnd_app_r (a b : ByteArray) (k : Nat) : lineEnd (a ++ b) (a.size + k) = a.size + lineEnd b k := by
  rcases first_ten b k with ⟨i, h1, h2, h3, h4⟩ | h
  · rw [lineEnd_at h1 h2 h3 h4, lineEnd_at (i := a.size + i) (by omega) (by rw [app_size]; omega) (by rw [bt_app_r]; exact h3)]
    · omega
    · intro j g1 g2
      obtain ⟨m, rfl⟩ : ∃ m, j = a.size + m := ⟨j - a.size, by omega⟩
      rw [bt_app_r]; exact h4 m (by omega) (by omega)
  · rw [lineEnd_none h, lineEnd_none, app_size]
    intro j g1 g2
    rw [app_size] at g2
    obtain ⟨m, rfl⟩ : ∃ m, j = a.size + m := ⟨j - a.size, by omega⟩
    rw [bt_app_r]; exact h m (by omega) (by omega)

/-- The text is empty, or ends with 10. -/
def Closed (a : ByteArray) : Prop := a.size = 0 ∨ bt a (a.size - 1) = 10

theorem lineEnd_app_l {a b : ByteArray} (hc : Closed a) {k : Nat} (hk : k < a.size) : lineEnd (a ++ b) k = lineEnd a k ∧ lineEnd a k ≤ a.size := by
  rcases first_ten a k with ⟨i, h1, h2, h3, h4⟩ | h
  · refine ⟨?_, (lineEnd_gt a k hk).2⟩
    rw [lineEnd_at h1 h2 h3 h4, lineEnd_at h1 (by rw [app_size]; omega) (by rw [bt_app_l h2]; exact h3)]
    intro j g1 g2
    rw [bt_app_l (by omega)]; exact h4 j g1 g2
  · rcases hc with h0 | h0
    · omega
    · exact absurd h0 (h _ (by omega) (by omega))

theorem lines_app_r (a b : ByteArray) (hb : b.size ≤ 1000000) (hab : (a ++ b).size ≤ 1000000) : ∀ (d k : Nat), b.size - k = d → linesAt (a ++ b) hab (a.size + k) = linesAt b hb k := by
  intro d
  induction d using Nat.strongRecOn with
  | ind d ih =>
    intro k hk
    by_cases h : k < b.size
    · have hg := lineEnd_gt b k h
      rw [linesAt_step _ hab _ (by rw [app_size]; omega), linesAt_step b hb k h, lineEnd_app_r, ih (b.size - lineEnd b k) (by omega) _ rfl]
      congr 1
      exact Subtype.ext (ex_app_r a b k _)
    · rw [linesAt_end _ hab _ (by rw [app_size]; omega), linesAt_end b hb k (by omega)]

theorem lines_app_l (a b : ByteArray) (ha : a.size ≤ 1000000) (hb : b.size ≤ 1000000) (hab : (a ++ b).size ≤ 1000000) (hc : Closed a) : ∀ (d k : Nat), a.size - k = d → k ≤ a.size → linesAt (a ++ b) hab k = linesAt a ha k ++ linesAt b hb 0 := by
  intro d
  induction d using Nat.strongRecOn with
  | ind d ih =>
    intro k hk hka
    by_cases h : k < a.size
    · obtain ⟨h1, h2⟩ := lineEnd_app_l (b := b) hc h
      have hg := lineEnd_gt a k h
      rw [linesAt_step _ hab _ (by rw [app_size]; omega), linesAt_step a ha k h, List.cons_append]
      congr 1
      · exact Subtype.ext (by show (a ++ b).extract k _ = a.extract k _; rw [h1, ex_app_l a b _ _ h2])
      · rw [h1]; exact ih (a.size - lineEnd a k) (by omega) _ rfl h2
    · obtain rfl : k = a.size := by omega
      rw [linesAt_end a ha _ (Nat.le_refl _), List.nil_append]
      exact lines_app_r a b hb hab _ 0 rfl

theorem lines_app (a b : ByteArray) (ha : a.size ≤ 1000000) (hb : b.size ≤ 1000000) (hab : (a ++ b).size ≤ 1000000) (hc : Closed a) : linesOf (a ++ b) hab = linesOf a ha ++ linesOf b hb :=
  lines_app_l a b ha hb hab hc _ 0 rfl (Nat.zero_le _)

/-- All bytes of lines. -/
def joined (l : List Line) : List UInt8 := l.flatMap fun x => x.1.data.toList
theorem joined_snoc (l : List Line) (x : Line) : joined (l ++ [x]) = joined l ++ x.1.data.toList := by unfold joined; simp
theorem joined_len (l : List Line) : (joined l).length ≤ 1000000 * l.length := by
  induction l with
  | nil => simp [joined]
  | cons x l ih =>
    have h1 : joined (x :: l) = x.1.data.toList ++ joined l := by unfold joined; simp
    have := x.2
    rw [Lib.size_eq] at this
    rw [h1, List.length_append, List.length_cons]; omega
theorem joined_at (s : ByteArray) (hs : s.size ≤ 1000000) : ∀ (d k : Nat), s.size - k = d → joined (linesAt s hs k) = s.data.toList.drop k := by
  intro d
  induction d using Nat.strongRecOn with
  | ind d ih =>
    intro k hk
    by_cases h : k < s.size
    · have hg := lineEnd_gt s k h
      have h1 : ∀ (x : Line) l, joined (x :: l) = x.1.data.toList ++ joined l := fun x l => by unfold joined; simp
      rw [linesAt_step s hs k h, h1, ih (s.size - lineEnd s k) (by omega) _ rfl]
      show (s.extract k (lineEnd s k)).data.toList ++ _ = _
      rw [Lib.extract_data]
      have : s.data.toList.drop (lineEnd s k) = (s.data.toList.drop k).drop (lineEnd s k - k) := by rw [List.drop_drop]; congr 1; omega
      rw [this, List.take_append_drop]
    · rw [linesAt_end s hs k (by omega), List.drop_eq_nil_of_le (by rw [← Lib.size_eq]; omega)]; rfl
theorem joined_lines (s : ByteArray) (hs : s.size ≤ 1000000) : joined (linesOf s hs) = s.data.toList := by
  unfold linesOf; rw [joined_at s hs _ 0 rfl, List.drop_zero]
theorem lines_len (s : ByteArray) (hs : s.size ≤ 1000000) : (linesOf s hs).length ≤ s.size := linesAt_len s hs _ 0 (by omega)
end Go.Proofs.YtgadnlnclpoeaaaDoor
