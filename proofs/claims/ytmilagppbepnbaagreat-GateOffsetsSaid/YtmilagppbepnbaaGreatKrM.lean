/- Rows of numbers and places, in order: plain. No condition. -/
import Derived.Test.YtmilagppbepnbaaGreatGFa
import Derived.Test.YtmilagppbepnbaaGreatPPa
namespace Go.Proofs.YtmilagppbepnbaaGreat
open Go.RowKit Go.PlainAid
set_option linter.unusedVariables false
set_option linter.unusedSimpArgs false
/-- A number and the block of what stands under it. -/
abbrev Rw := Nat × Nat
def rcs (x : Rw) : List Value := [.int .i64 x.1, .pointer (some ⟨x.2, 0, none⟩)]
theorem rcs_len (x : Rw) : (rcs x).length = 2 := rfl
theorem rcs_one (x : Rw) : ∀ u ∈ rcs x, u.oneCell' = true := by simp [rcs, Value.oneCell']
/-- In order, each number once. -/
def Ord (l : List Rw) : Prop := (l.map (·.1)).Pairwise (· < ·)
/-- How many numbers are less. -/
def posN : List Rw → Int → Nat
  | [], _ => 0
  | k :: l, x => if (k.1 : Int) < x then posN l x + 1 else 0
def hasN (l : List Rw) (x : Int) : Bool := decide ((l[posN l x]?).map (fun r => (r.1 : Int)) = some x)
/-- The block that stands under a number. -/
def getN (l : List Rw) (x : Int) : Option Nat := if hasN l x then (l[posN l x]?).map (·.2) else none
theorem posN_le : ∀ (l : List Rw) (x : Int), posN l x ≤ l.length
  | [], _ => Nat.le_refl _
  | k :: l, x => by
    unfold posN
    split
    · simpa using posN_le l x
    · exact Nat.zero_le _
theorem posN_is : ∀ {l : List Rw} {x : Int} {i : Nat}, i ≤ l.length → (∀ t y, t < i → l[t]? = some y → (y.1 : Int) < x) → (∀ t y, i ≤ t → l[t]? = some y → ¬ (y.1 : Int) < x) → posN l x = i
  | [], x, i, hi, _, _ => by simp at hi; rw [hi]; rfl
  | k :: l, x, 0, _, _, h2 => by unfold posN; rw [if_neg (h2 0 k (Nat.le_refl _) rfl)]
  | k :: l, x, i + 1, hi, h1, h2 => by
    unfold posN
    rw [if_pos (h1 0 k (Nat.succ_pos _) rfl), posN_is (i := i) (by simpa using hi) (fun t y ht hy => h1 (t + 1) y (by omega) (by simpa using hy)) (fun t y ht hy => h2 (t + 1) y (by omega) (by simpa using hy))]
theorem ord_lt {l : List Rw} (h : Ord l) {i j : Nat} {x y : Rw} (hi : l[i]? = some x) (hj : l[j]? = some y) (hij : i < j) : x.1 < y.1 := by
  unfold Ord at h
  have h1 : (l.map (·.1))[i]? = some x.1 := by rw [List.getElem?_map, hi]; rfl
  have h2 : (l.map (·.1))[j]? = some y.1 := by rw [List.getElem?_map, hj]; rfl
  obtain ⟨a, b⟩ := List.getElem?_eq_some_iff.1 h1
  obtain ⟨c, d⟩ := List.getElem?_eq_some_iff.1 h2
  have := List.pairwise_iff_getElem.1 h i j a c hij
  rw [b, d] at this
  exact this
theorem posN_below {l : List Rw} (h : Ord l) {x : Int} {t : Nat} {y : Rw} (ht : t < posN l x) (hy : l[t]? = some y) : (y.1 : Int) < x := by
  have key : ∀ (l : List Rw) (t : Nat) (y : Rw), t < posN l x → l[t]? = some y → (y.1 : Int) < x := by
    intro l
    induction l with
    | nil => intro t y ht; simp [posN] at ht
    | cons k l ih =>
      intro t y ht hy
      unfold posN at ht
      split at ht
      · cases t with
        | zero => cases hy; assumption
        | succ t => exact ih t y (by omega) (by simpa using hy)
      · omega
  exact key l t y ht hy
theorem posN_above {l : List Rw} (h : Ord l) {x : Int} {t : Nat} {y : Rw} (ht : posN l x ≤ t) (hy : l[t]? = some y) : ¬ (y.1 : Int) < x := by
  have key : ∀ (l : List Rw), ∀ y, l[posN l x]? = some y → ¬ (y.1 : Int) < x := by
    intro l
    induction l with
    | nil => intro y hy; simp at hy
    | cons k l ih =>
      intro y hy
      unfold posN at hy
      split at hy
      · exact ih y (by simpa using hy)
      · cases hy; assumption
  rcases Nat.lt_or_ge (posN l x) t with h1 | h1
  · have hl := (List.getElem?_eq_some_iff.1 hy).1
    obtain ⟨z, hz⟩ : ∃ z, l[posN l x]? = some z := ⟨_, List.getElem?_eq_getElem (by omega)⟩
    have := key l z hz
    have := ord_lt h hz hy h1
    omega
  · obtain rfl : t = posN l x := by omega
    exact key l y hy
theorem hasN_yes {l : List Rw} {x : Int} (h : hasN l x = true) : ∃ r, l[posN l x]? = some r ∧ (r.1 : Int) = x := by
  unfold hasN at h
  have := of_decide_eq_true h
  cases hl : l[posN l x]? with
  | none => rw [hl] at this; cases this
  | some r => rw [hl] at this; exact ⟨r, rfl, Option.some.inj this⟩
theorem hasN_of {l : List Rw} (h : Ord l) {r : Rw} {i : Nat} (hi : l[i]? = some r) : posN l (r.1 : Int) = i ∧ hasN l (r.1 : Int) = true := by
  have hp : posN l (r.1 : Int) = i := posN_is (Nat.le_of_lt (List.getElem?_eq_some_iff.1 hi).1) (fun t y ht hy => by have := ord_lt h hy hi ht; omega) (fun t y ht hy => by
    rcases Nat.eq_or_lt_of_le ht with e | e
    · subst e; rw [hi] at hy; cases hy; omega
    · have := ord_lt h hi hy e; omega)
  refine ⟨hp, ?_⟩
  unfold hasN
  rw [hp, hi]
  simp
theorem hasN_no {l : List Rw} (h : Ord l) {x : Int} (hn : ∀ r ∈ l, (r.1 : Int) ≠ x) : hasN l x = false := by
  cases hh : hasN l x with
  | false => rfl
  | true =>
    obtain ⟨r, hr, e⟩ := hasN_yes hh
    exact absurd e (hn r (List.mem_of_getElem? hr))
end Go.Proofs.YtmilagppbepnbaaGreat
