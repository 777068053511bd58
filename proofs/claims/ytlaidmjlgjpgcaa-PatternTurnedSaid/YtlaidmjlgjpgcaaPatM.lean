/- Patterns, plainly: what a list of elements matches; the greedy way; classes, members, brackets, elements. No condition. -/
import Derived.Test.YtlaidmjlgjpgcaaSplM
namespace Go.Proofs.Ytlaidmjlgjpgcaa

/-- An element: a star, or a set of bytes. -/
structure El where
  st : Bool
  S : UInt8 → Bool
def Mat : List El → List UInt8 → Prop
  | [], s => s = []
  | e :: l, s => bif e.st then ∃ j, j ≤ s.length ∧ Mat l (s.drop j) else ∃ c t, s = c :: t ∧ e.S c = true ∧ Mat l t
theorem mat_star {e : El} {l : List El} {s : List UInt8} (h : e.st = true) : Mat (e :: l) s ↔ ∃ j, j ≤ s.length ∧ Mat l (s.drop j) := by
  rw [Mat, h]; exact Iff.rfl
theorem mat_set {e : El} {l : List El} {s : List UInt8} (h : e.st = false) : Mat (e :: l) s ↔ ∃ c t, s = c :: t ∧ e.S c = true ∧ Mat l t := by
  rw [Mat, h]; exact Iff.rfl
theorem mat_nil {s : List UInt8} : Mat [] s ↔ s = [] := Iff.rfl
theorem drop_cons {s : List UInt8} {k : Nat} {c : UInt8} (h : s[k]? = some c) : s.drop k = c :: s.drop (k + 1) := by
  obtain ⟨h1, h2⟩ := List.getElem?_eq_some_iff.1 h
  rw [List.drop_eq_getElem_cons h1, h2]
/-- A run of sets takes as many bytes. -/
theorem mat_seg (seg : List El) : ∀ (l : List El) (s : List UInt8), (∀ e ∈ seg, e.st = false) → Mat (seg ++ l) s → seg.length ≤ s.length ∧ Mat l (s.drop seg.length) := by
  induction seg with
  | nil => exact fun l s _ h => ⟨Nat.zero_le _, h⟩
  | cons e seg ih =>
    intro l s hs h
    obtain ⟨c, t, rfl, _, h2⟩ := (mat_set (hs e (by simp))).1 h
    obtain ⟨h3, h4⟩ := ih l t (fun e he => hs e (by simp [he])) h2
    exact ⟨by simp; exact h3, h4⟩

/-- Where the greedy way stands: what is to be told still; the place behind the last star, and how much it has taken. -/
def Inv (rest : Nat → List El) (s : List UInt8) (M : Prop) (i k : Nat) : Option (Nat × Nat) → Prop
  | none => (M ↔ Mat (rest i) (s.drop k)) ∧ k ≤ s.length
  | some (z, f) => (M ↔ (Mat (rest i) (s.drop k) ∨ ∃ b, f < b ∧ b ≤ s.length ∧ Mat (rest z) (s.drop b))) ∧ (∃ seg, rest z = seg ++ rest i ∧ (∀ e ∈ seg, e.st = false) ∧ k = f + seg.length) ∧ k ≤ s.length
theorem Inv.le {rest : Nat → List El} {s : List UInt8} {M : Prop} {i k : Nat} {o : Option (Nat × Nat)} (h : Inv rest s M i k o) : k ≤ s.length := by
  rcases o with _ | ⟨z, f⟩
  · exact h.2
  · exact h.2.2
theorem Inv.from_le {rest : Nat → List El} {s : List UInt8} {M : Prop} {i k z f : Nat} (h : Inv rest s M i k (some (z, f))) : f ≤ k := by
  obtain ⟨_, ⟨seg, _, _, h3⟩, _⟩ := h
  omega
theorem Inv.star {rest : Nat → List El} {s : List UInt8} {M : Prop} {i i' k : Nat} {o : Option (Nat × Nat)} {e : El} (h : Inv rest s M i k o) (hr : rest i = e :: rest i') (he : e.st = true) : Inv rest s M i' k (some (i', k)) := by
  have hk := h.le
  have key : Mat (rest i) (s.drop k) ↔ (Mat (rest i') (s.drop k) ∨ ∃ b, k < b ∧ b ≤ s.length ∧ Mat (rest i') (s.drop b)) := by
    rw [hr, mat_star he]
    constructor
    · rintro ⟨j, hj, hm⟩
      rw [List.drop_drop] at hm
      rw [List.length_drop] at hj
      by_cases h0 : j = 0
      · subst h0; exact .inl hm
      · exact .inr ⟨k + j, by omega, by omega, hm⟩
    · rintro (hm | ⟨b, hb, hb2, hm⟩)
      · exact ⟨0, Nat.zero_le _, by simpa using hm⟩
      · exact ⟨b - k, by rw [List.length_drop]; omega, by rw [List.drop_drop, show k + (b - k) = b by omega]; exact hm⟩
  refine ⟨?_, ⟨[], rfl, fun e h => by simp at h, rfl⟩, hk⟩
  rcases o with _ | ⟨z, f⟩
  · exact h.1.trans key
  · obtain ⟨h1, ⟨seg, h2, h3, h4⟩, _⟩ := h
    refine h1.trans ⟨?_, fun h => .inl (key.2 h)⟩
    rintro (h | ⟨b, hb, hb2, hm⟩)
    · exact key.1 h
    · rw [h2] at hm
      obtain ⟨g1, g2⟩ := mat_seg seg _ _ h3 hm
      rw [List.drop_drop, hr, mat_star he] at g2
      rw [List.length_drop] at g1
      obtain ⟨j, hj, hm2⟩ := g2
      rw [List.drop_drop] at hm2
      rw [List.length_drop] at hj
      exact .inr ⟨b + seg.length + j, by omega, by omega, hm2⟩
theorem Inv.fit {rest : Nat → List El} {s : List UInt8} {M : Prop} {i i' k : Nat} {o : Option (Nat × Nat)} {e : El} {c : UInt8} (h : Inv rest s M i k o) (hr : rest i = e :: rest i') (he : e.st = false) (hc : s[k]? = some c) (hS : e.S c = true) : Inv rest s M i' (k + 1) o := by
  have key : Mat (rest i) (s.drop k) ↔ Mat (rest i') (s.drop (k + 1)) := by
    rw [hr, mat_set he, drop_cons hc]
    constructor
    · rintro ⟨c', t, e1, _, hm⟩
      obtain ⟨-, rfl⟩ := List.cons.inj e1
      exact hm
    · exact fun hm => ⟨c, _, rfl, hS, hm⟩
  have hk : k + 1 ≤ s.length := (List.getElem?_eq_some_iff.1 hc).1
  rcases o with _ | ⟨z, f⟩
  · exact ⟨h.1.trans key, hk⟩
  · obtain ⟨h1, ⟨seg, h2, h3, h4⟩, _⟩ := h
    refine ⟨h1.trans (or_congr key Iff.rfl), ⟨seg ++ [e], by rw [h2, hr]; simp, fun x hx => ?_, by rw [List.length_append, List.length_singleton]; omega⟩, hk⟩
    rcases List.mem_append.1 hx with g | g
    · exact h3 x g
    · rw [List.mem_singleton.1 g]; exact he
theorem Inv.back {rest : Nat → List El} {s : List UInt8} {M : Prop} {i k z f : Nat} (h : Inv rest s M i k (some (z, f))) (hf : f < s.length) (hn : ¬ Mat (rest i) (s.drop k)) : Inv rest s M z (f + 1) (some (z, f + 1)) := by
  obtain ⟨h1, _, _⟩ := h
  refine ⟨h1.trans ⟨?_, ?_⟩, ⟨[], rfl, fun e h => by simp at h, rfl⟩, hf⟩
  · rintro (g | ⟨b, hb, hb2, hm⟩)
    · exact absurd g hn
    · by_cases e : b = f + 1
      · subst e; exact .inl hm
      · exact .inr ⟨b, by omega, hb2, hm⟩
  · rintro (g | ⟨b, hb, hb2, hm⟩)
    · exact .inr ⟨f + 1, by omega, hf, g⟩
    · exact .inr ⟨b, by omega, hb2, hm⟩
theorem Inv.none_no {rest : Nat → List El} {s : List UInt8} {M : Prop} {i k : Nat} (h : Inv rest s M i k none) (hn : ¬ Mat (rest i) (s.drop k)) : ¬ M := fun m => hn (h.1.1 m)
theorem Inv.end_no {rest : Nat → List El} {s : List UInt8} {M : Prop} {i k z f : Nat} (h : Inv rest s M i k (some (z, f))) (hf : s.length ≤ f) (hn : ¬ Mat (rest i) (s.drop k)) : ¬ M := fun m => by
  rcases h.1.1 m with g | ⟨b, hb, hb2, _⟩
  · exact hn g
  · omega
theorem Inv.at_end {rest : Nat → List El} {s : List UInt8} {M : Prop} {i : Nat} {o : Option (Nat × Nat)} (h : Inv rest s M i s.length o) : M ↔ Mat (rest i) [] := by
  rcases o with _ | ⟨z, f⟩
  · have := h.1
    rwa [List.drop_length] at this
  · obtain ⟨h1, ⟨seg, h2, h3, h4⟩, _⟩ := h
    rw [List.drop_length] at h1
    refine h1.trans ⟨?_, .inl⟩
    rintro (g | ⟨b, hb, hb2, hm⟩)
    · exact g
    · rw [h2] at hm
      obtain ⟨g1, _⟩ := mat_seg seg _ _ h3 hm
      rw [List.length_drop] at g1
      omega
theorem mat_no_set {e : El} {l : List El} {s : List UInt8} {k : Nat} {c : UInt8} (he : e.st = false) (hc : s[k]? = some c) (hS : e.S c = false) : ¬ Mat (e :: l) (s.drop k) := by
  rw [mat_set he, drop_cons hc]
  rintro ⟨c', t, e1, h, _⟩
  obtain ⟨rfl, -⟩ := List.cons.inj e1
  rw [hS] at h; cases h
theorem mat_no_nil {s : List UInt8} {k : Nat} (h : k < s.length) : ¬ Mat [] (s.drop k) := by
  rw [mat_nil]
  intro e
  have := congrArg List.length e
  rw [List.length_drop, List.length_nil] at this
  omega
theorem mat_no_end {e : El} {l : List El} (he : e.st = false) : ¬ Mat (e :: l) [] := by
  rw [mat_set he]
  rintro ⟨c, t, h, _⟩
  cases h
theorem mat_end_star {e : El} {l : List El} (he : e.st = true) : Mat (e :: l) [] ↔ Mat l [] := by
  rw [mat_star he]
  constructor
  · rintro ⟨j, _, h⟩
    rwa [List.drop_nil] at h
  · exact fun h => ⟨0, Nat.zero_le _, h⟩

/-- Two runs of elements, one behind the other. -/
theorem mat_append (a : List El) : ∀ (b : List El) (s : List UInt8), Mat (a ++ b) s ↔ ∃ i, i ≤ s.length ∧ Mat a (s.take i) ∧ Mat b (s.drop i) := by
  induction a with
  | nil =>
    intro b s
    constructor
    · exact fun h => ⟨0, Nat.zero_le _, by simp [Mat], by simpa using h⟩
    · rintro ⟨i, hi, h1, h2⟩
      rw [mat_nil] at h1
      have := congrArg List.length h1
      rw [List.length_take, List.length_nil] at this
      obtain rfl : i = 0 := by omega
      simpa using h2
  | cons e a ih =>
    intro b s
    rw [List.cons_append]
    cases he : e.st
    · rw [mat_set he]
      constructor
      · rintro ⟨c, t, rfl, hS, h⟩
        obtain ⟨i, hi, h1, h2⟩ := (ih b t).1 h
        exact ⟨i + 1, by simp; omega, by rw [List.take_succ_cons, mat_set he]; exact ⟨c, _, rfl, hS, h1⟩, h2⟩
      · rintro ⟨i, hi, h1, h2⟩
        rw [mat_set he] at h1
        obtain ⟨c, t, e1, hS, h3⟩ := h1
        cases s with
        | nil => simp at e1
        | cons c' t' =>
          cases i with
          | zero => simp at e1
          | succ i =>
            rw [List.take_succ_cons] at e1
            obtain ⟨rfl, rfl⟩ := List.cons.inj e1
            exact ⟨_, _, rfl, hS, (ih b t').2 ⟨i, by simpa using hi, h3, h2⟩⟩
    · rw [mat_star he]
      constructor
      · rintro ⟨j, hj, h⟩
        obtain ⟨i, hi, h1, h2⟩ := (ih b _).1 h
        rw [List.length_drop] at hi
        refine ⟨j + i, by omega, ?_, by rw [← List.drop_drop]; exact h2⟩
        rw [mat_star he]
        refine ⟨j, by rw [List.length_take]; omega, ?_⟩
        rw [List.drop_take, show j + i - j = i by omega]
        exact h1
      · rintro ⟨i, hi, h1, h2⟩
        rw [mat_star he] at h1
        obtain ⟨j, hj, h1⟩ := h1
        rw [List.length_take] at hj
        rw [List.drop_take] at h1
        refine ⟨j, by omega, (ih b _).2 ⟨i - j, by rw [List.length_drop]; omega, h1, ?_⟩⟩
        rw [List.drop_drop, show j + (i - j) = i by omega]
        exact h2
end Go.Proofs.Ytlaidmjlgjpgcaa
