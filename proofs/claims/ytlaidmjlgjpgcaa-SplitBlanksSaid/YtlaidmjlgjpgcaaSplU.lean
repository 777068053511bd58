/- SplitBlanks: plainly. No condition but lengths. -/
import Derived.Test.YtlaidmjlgjpgcaaSplN
import Derived.Deep.AppendLies
namespace Go.Proofs.Ytlaidmjlgjpgcaa
open Go.RowKit

/-- Words and the word at hand, by blanks; runs and the run at hand, by a byte. -/
def softStep (m : List (List UInt8) × List UInt8) (c : UInt8) : List (List UInt8) × List UInt8 := if c.toNat = 32 then ((if m.2 = [] then m.1 else m.1 ++ [m.2]), []) else (m.1, m.2 ++ [c])
def hardStep (b : UInt8) (m : List (List UInt8) × List UInt8) (c : UInt8) : List (List UInt8) × List UInt8 := if c = b then (m.1 ++ [m.2], []) else (m.1, m.2 ++ [c])
def ended (m : List (List UInt8) × List UInt8) : List (List UInt8) := if m.2 = [] then m.1 else m.1 ++ [m.2]

theorem step_small {f : List (List UInt8) × List UInt8 → UInt8 → List (List UInt8) × List UInt8} (hf : ∀ m c, (f m c = (m.1, m.2 ++ [c])) ∨ (f m c = (m.1 ++ [m.2], [])) ∨ (m.2 = [] ∧ f m c = (m.1, []))) (l : List UInt8) :
    ∀ m, (l.foldl f m).1.length + (if (l.foldl f m).2 = [] then 0 else 1) ≤ m.1.length + (if m.2 = [] then 0 else 1) + l.length ∧
      ((∀ w ∈ m.1, w.length ≤ 1000) → m.2.length + l.length ≤ 1000 → (∀ w ∈ (l.foldl f m).1, w.length ≤ 1000) ∧ (l.foldl f m).2.length ≤ 1000) := by
  induction l with
  | nil => intro m; exact ⟨Nat.le_refl _, fun h1 h2 => ⟨h1, by simpa using h2⟩⟩
  | cons c l ih =>
    intro m
    obtain ⟨i2, i3⟩ := ih (f m c)
    rw [List.foldl_cons]
    rcases hf m c with h | h | ⟨h0, h⟩ <;> rw [h] at i2 i3 ⊢
    · refine ⟨?_, fun h1 h2 => i3 h1 (by simp at h2 ⊢; omega)⟩
      simp only at i2 ⊢
      rw [if_neg (by simp : ¬ m.2 ++ [c] = [])] at i2
      rw [List.length_cons]
      split at i2 <;> split <;> omega
    · refine ⟨?_, fun h1 h2 => i3 (fun w hw => ?_) (by simp at h2 ⊢; omega)⟩
      · rw [if_pos rfl] at i2
        simp only [List.length_append, List.length_cons, List.length_nil] at i2 ⊢
        omega
      · rcases List.mem_append.1 hw with hw | hw
        · exact h1 w hw
        · rw [List.mem_singleton.1 hw]; simp at h2; omega
    · refine ⟨?_, fun h1 h2 => i3 h1 (by simp at h2 ⊢; omega)⟩
      rw [if_pos rfl] at i2
      rw [if_pos h0, List.length_cons]
      simp only at i2 ⊢
      omega
theorem soft_form (m : List (List UInt8) × List UInt8) (c : UInt8) : (softStep m c = (m.1, m.2 ++ [c])) ∨ (softStep m c = (m.1 ++ [m.2], [])) ∨ (m.2 = [] ∧ softStep m c = (m.1, [])) := by
  unfold softStep
  by_cases h : c.toNat = 32
  · by_cases h2 : m.2 = []
    · exact .inr (.inr ⟨h2, by rw [if_pos h, if_pos h2]⟩)
    · exact .inr (.inl (by rw [if_pos h, if_neg h2]))
  · exact .inl (by rw [if_neg h])
theorem hard_form (b : UInt8) (m : List (List UInt8) × List UInt8) (c : UInt8) : (hardStep b m c = (m.1, m.2 ++ [c])) ∨ (hardStep b m c = (m.1 ++ [m.2], [])) ∨ (m.2 = [] ∧ hardStep b m c = (m.1, [])) := by
  unfold hardStep
  by_cases h : c = b
  · exact .inr (.inl (by rw [if_pos h]))
  · exact .inl (by rw [if_neg h])

/-- Small: no more than the text's letters. -/
def Small (l : List (List UInt8)) : Prop := l.length ≤ 190 ∧ ∀ w ∈ l, w.length ≤ 1000
theorem ended_small {f : List (List UInt8) × List UInt8 → UInt8 → List (List UInt8) × List UInt8} (hf : ∀ m c, (f m c = (m.1, m.2 ++ [c])) ∨ (f m c = (m.1 ++ [m.2], [])) ∨ (m.2 = [] ∧ f m c = (m.1, []))) (l : List UInt8) (hl : l.length ≤ 190) : Small (ended (l.foldl f ([], []))) ∧ Small (l.foldl f ([], [])).1 := by
  obtain ⟨h2, h3⟩ := step_small hf l ([], [])
  obtain ⟨h4, h5⟩ := h3 (fun w hw => by simp at hw) (by simp; omega)
  rw [if_pos rfl] at h2
  simp only [List.length_nil, Nat.zero_add] at h2
  unfold ended Small
  split
  · rename_i he
    rw [if_pos he] at h2
    exact ⟨⟨by omega, h4⟩, ⟨by omega, h4⟩⟩
  · rename_i he
    rw [if_neg he] at h2
    refine ⟨⟨by rw [List.length_append]; simp; omega, fun w hw => ?_⟩, ⟨by omega, h4⟩⟩
    rcases List.mem_append.1 hw with hw | hw
    · exact h4 w hw
    · rw [List.mem_singleton.1 hw]; exact h5

theorem soft_fold (l : List UInt8) : ∀ m : List (List UInt8) × List UInt8, ∀ s, ∃ s', fold ⟨m.1.map fld, fld m.2, !m.2.isEmpty, s⟩ (l.map (pt1 ⟨#[32]⟩)) = ⟨(l.foldl softStep m).1.map fld, fld (l.foldl softStep m).2, !(l.foldl softStep m).2.isEmpty, s'⟩ := by
  induction l with
  | nil => exact fun m s => ⟨s, rfl⟩
  | cons c l ih =>
    intro m s
    rw [List.map_cons, List.foldl_cons]
    have e : ∀ (M : Mk) p r, fold M (p :: r) = fold (M.step p) r := fun _ _ _ => rfl
    rw [e]
    have h : ∃ s', Mk.step ⟨m.1.map fld, fld m.2, !m.2.isEmpty, s⟩ (pt1 ⟨#[32]⟩ c) = ⟨(softStep m c).1.map fld, fld (softStep m c).2, !(softStep m c).2.isEmpty, s'⟩ := by
      unfold pt1 softStep
      rw [isSep_one]
      by_cases h : c.toNat = 32
      · have hc : c = 32 := UInt8.toNat_inj.1 h
        rw [decide_eq_true hc, if_pos h]
        have hb : isBlank c = true := by unfold isBlank; exact decide_eq_true (.inr (.inr h))
        rw [hb]
        cases hm : m.2 with
        | nil => exact ⟨s, by simp [Mk.step, fld]⟩
        | cons x r => exact ⟨true, by simp [Mk.step, fld]⟩
      · have hc : ¬ c = 32 := fun e => h (by rw [e]; rfl)
        rw [decide_eq_false hc, if_neg h]
        exact ⟨s, by simp [Mk.step, fld]⟩
    obtain ⟨s', h⟩ := h
    rw [h]
    exact ih _ _
theorem hard_fold (b : UInt8) (hbl : isBlank b = false) (l : List UInt8) : ∀ m : List (List UInt8) × List UInt8, fold ⟨m.1.map fld, fld m.2, !m.2.isEmpty, false⟩ (l.map (pt1 ⟨#[b]⟩)) = ⟨(l.foldl (hardStep b) m).1.map fld, fld (l.foldl (hardStep b) m).2, !(l.foldl (hardStep b) m).2.isEmpty, false⟩ := by
  induction l with
  | nil => exact fun m => rfl
  | cons c l ih =>
    intro m
    rw [List.map_cons, List.foldl_cons]
    have e : ∀ (M : Mk) p r, fold M (p :: r) = fold (M.step p) r := fun _ _ _ => rfl
    rw [e]
    have h : Mk.step ⟨m.1.map fld, fld m.2, !m.2.isEmpty, false⟩ (pt1 ⟨#[b]⟩ c) = ⟨(hardStep b m c).1.map fld, fld (hardStep b m c).2, !(hardStep b m c).2.isEmpty, false⟩ := by
      unfold pt1 hardStep
      rw [isSep_one]
      by_cases h : c = b
      · rw [decide_eq_true h, if_pos h, h, hbl]
        cases hm : m.2 with
        | nil => simp [Mk.step, fld]
        | cons x r => simp [Mk.step, fld]
      · rw [decide_eq_false h, if_neg h]
        simp [Mk.step, fld]
    rw [h]
    exact ih _

theorem fin_ended (m : List (List UInt8) × List UInt8) (s : Bool) : (Mk.fin ⟨m.1.map fld, fld m.2, !m.2.isEmpty, s⟩).fs = (ended m).map fld := by
  unfold Mk.fin ended
  cases hm : m.2 with
  | nil => simp
  | cons x r => simp
theorem small_fields {l : List Pt} {L : List (List UInt8)} (h : (fold mk0 l).fin.fs = L.map fld) (hs : Small L) : fieldsOf l = some (L.map fld) := by
  rcases fieldsOf_eq l with ⟨h1, _⟩ | ⟨_, h2⟩
  · rw [h1, h]
  · rw [h] at h2
    exfalso
    rcases h2 with h2 | ⟨f, hf, h2⟩
    · rw [List.length_map] at h2; have := hs.1; omega
    · obtain ⟨t, ht, rfl⟩ := List.mem_map.1 hf
      rw [fld_len] at h2
      have := hs.2 t ht
      omega
theorem soft_fields (t : ByteArray) (hl : t.data.toList.length ≤ 190) : fieldsOf ((partsOf ⟨#[32]⟩ [⟨t, false, true⟩]).map ptOf) = some ((ended (t.data.toList.foldl softStep ([], []))).map fld) := by
  rw [parts_one]
  obtain ⟨s', h⟩ := soft_fold t.data.toList ([], []) false
  have h0 : fold mk0 (t.data.toList.map (pt1 ⟨#[32]⟩)) = _ := h
  exact small_fields (by rw [h0, fin_ended]) (ended_small soft_form _ hl).1
theorem hard_fields (b : UInt8) (hbl : isBlank b = false) (t : ByteArray) (hl : t.data.toList.length ≤ 190) : fieldsOf ((partsOf ⟨#[b]⟩ [⟨t, false, true⟩]).map ptOf) = some ((ended (t.data.toList.foldl (hardStep b) ([], []))).map fld) := by
  rw [parts_one]
  have h := hard_fold b hbl t.data.toList ([], [])
  have h0 : fold mk0 (t.data.toList.map (pt1 ⟨#[b]⟩)) = _ := h
  exact small_fields (by rw [h0, fin_ended]) (ended_small (hard_form b) _ hl).1
end Go.Proofs.Ytlaidmjlgjpgcaa
