/- What pieces give as fields, plainly. No condition. -/
import Derived.Test.YtlaidmjlgjpgcaaProg
import Derived.WalkKit
import Derived.Lib.Hide
import Derived.PlainAid
import Derived.Lib.Strings
namespace Go.Proofs.Ytlaidmjlgjpgcaa

/-- A byte, and whether it is quoted. -/
abbrev Ch := UInt8 × Bool
/-- A byte of a field; a quoted piece's beginning; a separator of either kind. -/
inductive Pt where
  | it (c : Ch)
  | st
  | sf
  | hd
/-- The maker's state. -/
structure Mk where
  fs : List (List Ch)
  f : List Ch
  b : Bool
  s : Bool
def mk0 : Mk := ⟨[], [], false, false⟩
def Mk.fin (m : Mk) : Mk := bif m.b then ⟨m.fs ++ [m.f], [], false, m.s⟩ else ⟨m.fs, [], false, m.s⟩
def Mk.step (m : Mk) : Pt → Mk
  | .it c => { m with b := true, f := m.f ++ [c] }
  | .st => { m with b := true }
  | .sf => bif m.b then ⟨m.fs ++ [m.f], [], false, true⟩ else ⟨m.fs, [], false, m.s⟩
  | .hd => bif m.b then ⟨m.fs ++ [m.f], [], false, false⟩ else bif m.s then ⟨m.fs, [], false, false⟩ else ⟨m.fs ++ [[]], [], false, false⟩
def Mk.big (m : Mk) : Bool := decide (200 < m.fs.length) || decide (4096 < m.f.length)

/-- The program's way: stop where it is too much. -/
def go : Mk → List Pt → Option Mk
  | m, [] => some m
  | m, p :: r => bif (m.step p).big then none else go (m.step p) r
def fold (m : Mk) (l : List Pt) : Mk := l.foldl Mk.step m

/-- Too much, somewhere. -/
def Mk.bad (m : Mk) : Prop := 200 < m.fs.length ∨ (∃ f ∈ m.fs, 4096 < f.length) ∨ 4096 < m.f.length

theorem bad_step {m : Mk} (h : m.bad) (p : Pt) (hb : m.b = false → m.f = []) : (m.step p).bad := by
  have mem : ∀ {l : List (List Ch)} {x : List Ch}, (∃ f ∈ l, 4096 < f.length) → ∃ f ∈ l ++ [x], 4096 < f.length := fun ⟨f, h1, h2⟩ => ⟨f, by simp [h1], h2⟩
  rcases p with c | _ | _ | _
  · rcases h with h | h | h
    · exact .inl h
    · exact .inr (.inl h)
    · exact .inr (.inr (by show 4096 < (m.f ++ [c]).length; rw [List.length_append]; omega))
  · exact h
  · unfold Mk.step
    cases e : m.b
    · rcases h with h | h | h
      · exact .inl h
      · exact .inr (.inl h)
      · rw [hb e] at h; simp at h
    · rcases h with h | h | h
      · exact .inl (by show 200 < (m.fs ++ [m.f]).length; rw [List.length_append]; omega)
      · exact .inr (.inl (mem h))
      · exact .inr (.inl ⟨m.f, by simp, h⟩)
  · unfold Mk.step
    cases e : m.b
    · cases e2 : m.s
      · rcases h with h | h | h
        · exact .inl (by show 200 < (m.fs ++ [[]]).length; rw [List.length_append]; omega)
        · exact .inr (.inl (mem h))
        · rw [hb e] at h; simp at h
      · rcases h with h | h | h
        · exact .inl h
        · exact .inr (.inl h)
        · rw [hb e] at h; simp at h
    · rcases h with h | h | h
      · exact .inl (by show 200 < (m.fs ++ [m.f]).length; rw [List.length_append]; omega)
      · exact .inr (.inl (mem h))
      · exact .inr (.inl ⟨m.f, by simp, h⟩)

theorem good_step {m : Mk} (h : ¬ m.bad) (p : Pt) (hb : (m.step p).big = false) : ¬ (m.step p).bad := by
  have h1 : ¬ 200 < (m.step p).fs.length := fun g => by unfold Mk.big at hb; rw [decide_eq_true g] at hb; simp at hb
  have h2 : ¬ 4096 < (m.step p).f.length := fun g => by unfold Mk.big at hb; rw [decide_eq_true (p := 4096 < _) g] at hb; simp at hb
  have h3 : ¬ ∃ f ∈ m.fs, 4096 < f.length := fun g => h (.inr (.inl g))
  have h4 : ¬ 4096 < m.f.length := fun g => h (.inr (.inr g))
  have mem : ∀ {x : List Ch}, ¬ 4096 < x.length → ¬ ∃ f ∈ m.fs ++ [x], 4096 < f.length := by
    rintro x hx ⟨f, hf, hl⟩
    rcases List.mem_append.1 hf with g | g
    · exact h3 ⟨f, g, hl⟩
    · rw [List.mem_singleton.1 g] at hl; exact hx hl
  rintro (g | g | g)
  · exact h1 g
  · revert g
    rcases p with c | _ | _ | _
    · exact h3
    · exact h3
    · unfold Mk.step
      cases m.b
      · exact h3
      · exact mem h4
    · unfold Mk.step
      cases m.b
      · cases m.s
        · exact mem (by simp)
        · exact h3
      · exact mem h4
  · exact h2 g

theorem step_inv {m : Mk} (p : Pt) : (m.step p).b = false → (m.step p).f = [] := by
  rcases p with c | _ | _ | _
  · intro g; cases g
  · intro g; cases g
  · unfold Mk.step; cases m.b <;> exact fun _ => rfl
  · unfold Mk.step
    cases m.b
    · cases m.s <;> exact fun _ => rfl
    · exact fun _ => rfl

theorem bad_fold (l : List Pt) : ∀ m : Mk, m.bad → (m.b = false → m.f = []) → (fold m l).bad := by
  induction l with
  | nil => exact fun m h _ => h
  | cons p r ih => exact fun m h g => ih _ (bad_step h p g) (step_inv p)

theorem go_fold (l : List Pt) : ∀ m : Mk, ¬ m.bad → (m.b = false → m.f = []) → (go m l = some (fold m l) ∧ ¬ (fold m l).bad) ∨ (go m l = none ∧ (fold m l).bad) := by
  induction l with
  | nil => exact fun m h _ => .inl ⟨rfl, h⟩
  | cons p r ih =>
    intro m h g
    have e : fold m (p :: r) = fold (m.step p) r := rfl
    rw [e, go]
    cases hb : (m.step p).big
    · exact ih _ (good_step h p hb) (step_inv p)
    · refine .inr ⟨rfl, bad_fold r _ ?_ (step_inv p)⟩
      unfold Mk.big at hb
      rcases Bool.or_eq_true_iff.1 hb with g1 | g1
      · exact .inl (of_decide_eq_true g1)
      · exact .inr (.inr (of_decide_eq_true g1))

/-- What comes of it: none: too much. -/
def outOf : Option Mk → Option (List (List Ch))
  | none => none
  | some m => bif m.fin.big then none else some m.fin.fs
def fieldsOf (l : List Pt) : Option (List (List Ch)) := outOf (go mk0 l)

theorem inv_fold (l : List Pt) : ∀ m : Mk, (m.b = false → m.f = []) → ((fold m l).b = false → (fold m l).f = []) := by
  induction l with
  | nil => exact fun m h => h
  | cons p r ih => exact fun m h => ih _ (step_inv p)

/-- By the fields at the end alone. -/
def tooMany (fs : List (List Ch)) : Prop := 200 < fs.length ∨ ∃ f ∈ fs, 4096 < f.length
theorem fin_bad {m : Mk} (h : m.b = false → m.f = []) : tooMany m.fin.fs ↔ (m.bad ∨ 200 < m.fin.fs.length) := by
  unfold Mk.fin
  cases e : m.b
  · have h1 := h e
    show tooMany m.fs ↔ (m.bad ∨ 200 < m.fs.length)
    unfold tooMany Mk.bad
    rw [h1]
    constructor
    · rintro (g | g)
      · exact .inr g
      · exact .inl (.inr (.inl g))
    · rintro ((g | g | g) | g)
      · exact .inl g
      · exact .inr g
      · simp at g
      · exact .inl g
  · show tooMany (m.fs ++ [m.f]) ↔ (m.bad ∨ 200 < (m.fs ++ [m.f]).length)
    unfold tooMany Mk.bad
    constructor
    · rintro (g | ⟨f, hf, hl⟩)
      · exact .inr g
      · rcases List.mem_append.1 hf with g | g
        · exact .inl (.inr (.inl ⟨f, g, hl⟩))
        · rw [List.mem_singleton.1 g] at hl; exact .inl (.inr (.inr hl))
    · rintro ((g | ⟨f, hf, hl⟩ | g) | g)
      · exact .inl (by rw [List.length_append]; omega)
      · exact .inr ⟨f, by simp [hf], hl⟩
      · exact .inr ⟨m.f, by simp, g⟩
      · exact .inl g
theorem fin_f (m : Mk) : m.fin.f = [] := by unfold Mk.fin; cases m.b <;> rfl

theorem fieldsOf_eq (l : List Pt) : (fieldsOf l = some (fold mk0 l).fin.fs ∧ ¬ tooMany (fold mk0 l).fin.fs) ∨ (fieldsOf l = none ∧ tooMany (fold mk0 l).fin.fs) := by
  have h0 : ¬ mk0.bad := by rintro (h | ⟨f, h, _⟩ | h) <;> simp [mk0] at h
  have hi := inv_fold l mk0 (fun _ => rfl)
  unfold fieldsOf
  rcases go_fold l mk0 h0 (fun _ => rfl) with ⟨h, hb⟩ | ⟨h, hb⟩
  · rw [h]
    have e : outOf (some (fold mk0 l)) = bif (fold mk0 l).fin.big then none else some (fold mk0 l).fin.fs := rfl
    rw [e]
    cases hg : (fold mk0 l).fin.big
    · refine .inl ⟨rfl, fun ht => ?_⟩
      rcases (fin_bad hi).1 ht with g | g
      · exact hb g
      · unfold Mk.big at hg; rw [decide_eq_true g] at hg; simp at hg
    · refine .inr ⟨rfl, (fin_bad hi).2 (.inr ?_)⟩
      unfold Mk.big at hg
      rcases Bool.or_eq_true_iff.1 hg with g1 | g1
      · exact of_decide_eq_true g1
      · rw [fin_f] at g1; simp at g1
  · rw [h]
    exact .inr ⟨rfl, (fin_bad hi).2 (.inl hb)⟩
end Go.Proofs.Ytlaidmjlgjpgcaa
