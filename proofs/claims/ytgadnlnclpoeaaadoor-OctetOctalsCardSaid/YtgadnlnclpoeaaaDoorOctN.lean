/- The contract of the document's Number. No condition but the text's length. -/
import Derived.Test.YtgadnlnclpoeaaaDoorOctD
import Derived.Test.YtgadnlnclpoeaaaDoorOctM
namespace Go.Proofs.YtgadnlnclpoeaaaDoor
open Go.RowKit Go.PlainAid Go.Lib

def isDigB (c : UInt8) : Bool := decide (48 ≤ c.toNat) && decide (c.toNat ≤ 57)
/-- Digits up to 2^63. -/
def rdMag (acc : Nat) : List UInt8 → Option Nat
  | [] => some acc
  | c :: r => bif isDigB c then (bif decide (9223372036854775808 < acc * 10 + (c.toNat - 48)) then none else rdMag (acc * 10 + (c.toNat - 48)) r) else none

theorem rd_nil (acc : Nat) : rdMag acc [] = some acc := by rw [rdMag]
theorem rd_bad {c : UInt8} (h : isDigB c = false) (acc : Nat) (r : List UInt8) : rdMag acc (c :: r) = none := by rw [rdMag, h]; rfl
theorem rd_big {c : UInt8} (h : isDigB c = true) {acc : Nat} (h2 : 9223372036854775808 < acc * 10 + (c.toNat - 48)) (r : List UInt8) : rdMag acc (c :: r) = none := by
  rw [rdMag, h, decide_eq_true h2]; rfl
theorem rd_step {c : UInt8} (h : isDigB c = true) {acc : Nat} (h2 : ¬ 9223372036854775808 < acc * 10 + (c.toNat - 48)) (r : List UInt8) : rdMag acc (c :: r) = rdMag (acc * 10 + (c.toNat - 48)) r := by
  rw [rdMag, h, decide_eq_false h2]; rfl

theorem isDigB_iff (c : UInt8) : isDigB c = true ↔ 48 ≤ c.toNat ∧ c.toNat ≤ 57 := by unfold isDigB; simp

theorem pu_ge (M : Nat) (l : List UInt8) : ∀ acc u, parseUintM M acc l = .ok u → acc ≤ u := by
  induction l with
  | nil => intro acc u h; rw [parseUintM] at h; cases h; exact Nat.le_refl _
  | cons c r ih =>
    intro acc u h
    rw [parseUintM] at h
    split at h
    · split at h
      · cases h
      · split at h
        · cases h
        · have := ih _ _ h; omega
    · cases h

/-- What ParseUint makes of digits, told by rdMag. -/
theorem rd_some (l : List UInt8) : ∀ acc v, acc ≤ 9223372036854775808 → rdMag acc l = some v → parseUintM 18446744073709551615 acc l = .ok v ∧ v ≤ 9223372036854775808 := by
  induction l with
  | nil => intro acc v ha h; rw [rd_nil] at h; cases h; exact ⟨by rw [parseUintM], ha⟩
  | cons c r ih =>
    intro acc v ha h
    cases hd : isDigB c
    · rw [rd_bad hd] at h; cases h
    · by_cases h2 : 9223372036854775808 < acc * 10 + (c.toNat - 48)
      · rw [rd_big hd h2] at h; cases h
      · rw [rd_step hd h2] at h
        have hd' := (isDigB_iff c).1 hd
        have hi := ih _ v (by omega) h
        rw [parseUintM, if_pos hd', if_neg (by omega), if_neg (by omega)]
        exact hi
theorem rd_none (l : List UInt8) : ∀ acc, acc ≤ 9223372036854775808 → rdMag acc l = none → ∀ u, parseUintM 18446744073709551615 acc l = .ok u → 9223372036854775808 < u := by
  induction l with
  | nil => intro acc _ h; rw [rd_nil] at h; cases h
  | cons c r ih =>
    intro acc ha h u hu
    cases hd : isDigB c
    · have hd' : ¬ (48 ≤ c.toNat ∧ c.toNat ≤ 57) := fun g => by rw [(isDigB_iff c).2 g] at hd; cases hd
      rw [parseUintM, if_neg hd'] at hu; cases hu
    · have hd' := (isDigB_iff c).1 hd
      by_cases h2 : 9223372036854775808 < acc * 10 + (c.toNat - 48)
      · rw [parseUintM, if_pos hd'] at hu
        split at hu
        · cases hu
        · split at hu
          · cases hu
          · have := pu_ge _ _ _ _ hu; omega
      · rw [rd_step hd h2] at h
        rw [parseUintM, if_pos hd', if_neg (by omega), if_neg (by omega)] at hu
        exact ih _ (by omega) h u hu

/-- What is read of digits t behind a sign. -/
def resV (minus : Bool) (t : List UInt8) : Int := if t = [] then 0 else
  match rdMag 0 t with
  | none => 0
  | some v => if minus = true then -(v : Int) else if v = 9223372036854775808 then 0 else (v : Int)
def resOk (minus : Bool) (t : List UInt8) : Bool := if t = [] then false else
  match rdMag 0 t with
  | none => false
  | some v => if minus = true then true else decide (v ≠ 9223372036854775808)

theorem pow63 : (2 ^ (64 - 1) : Nat) = 9223372036854775808 := by decide
theorem pow64 : (2 ^ 64 - 1 : Nat) = 18446744073709551615 := by decide

theorem num_fail {l : List UInt8} (h : ∀ v, parseIntB 64 l ≠ .ok v) : numV l = 0 ∧ numOk l = false := by
  unfold numV numOk
  generalize hp : parseIntB 64 l = e at h ⊢
  rcases e with v | _ | _
  · exact absurd rfl (h v)
  · exact ⟨rfl, rfl⟩
  · exact ⟨rfl, rfl⟩

/-- Both, of a text whose rest behind the sign is t. -/
theorem res_of {l t : List UInt8} {minus : Bool} (h : parseIntB 64 l = (bif minus then signedC (2 ^ (64 - 1)) (parseUintB 64 t) else signlessC (2 ^ (64 - 1)) (parseUintB 64 t))) :
    numV l = resV minus t ∧ numOk l = resOk minus t := by
  unfold resV resOk
  by_cases ht : t = []
  · subst ht
    rw [if_pos rfl, if_pos rfl]
    apply num_fail
    intro v hv
    rw [h] at hv
    cases minus <;> cases hv
  · rw [if_neg ht, if_neg ht]
    rw [parseUintB, if_neg ht, pow64, pow63] at h
    cases hr : rdMag 0 t with
    | none =>
      apply num_fail
      intro v hv
      rw [h] at hv
      generalize hp : parseUintM 18446744073709551615 0 t = e at hv
      rcases e with u | _ | _
      · have := rd_none t 0 (by omega) hr u hp
        cases minus
        · have e2 : signlessC 9223372036854775808 (.ok u) = .range := if_pos (by omega)
          rw [cond_false, e2] at hv; cases hv
        · have e2 : signedC 9223372036854775808 (.ok u) = .range := if_pos (by omega)
          rw [cond_true, e2] at hv; cases hv
      · cases minus <;> cases hv
      · cases minus <;> cases hv
    | some v =>
      obtain ⟨hp, hv⟩ := rd_some t 0 v (by omega) hr
      rw [hp] at h
      cases minus
      · by_cases e : v = 9223372036854775808
        · have e2 : signlessC 9223372036854775808 (.ok v) = .range := if_pos (by omega)
          rw [cond_false, e2] at h
          obtain ⟨h1, h2⟩ := num_fail (l := l) (by intro v hv; rw [h] at hv; cases hv)
          simp [h1, h2, e]
        · have e2 : signlessC 9223372036854775808 (.ok v) = .ok (v : Int) := if_neg (by omega)
          rw [cond_false, e2] at h
          rw [numV_of h, numOk_of h]
          simp [e]
      · have e2 : signedC 9223372036854775808 (.ok v) = .ok (-(v : Int)) := if_neg (by omega)
        rw [cond_true, e2] at h
        rw [numV_of h, numOk_of h]
        simp

def minusOf : List UInt8 → Bool
  | [] => false
  | c :: _ => c == 45
def restOf : List UInt8 → List UInt8
  | [] => []
  | c :: r => if c = 43 ∨ c = 45 then r else c :: r
theorem rest_43 (r : List UInt8) : restOf (43 :: r) = r := by
  rw [restOf]; exact if_pos (.inl rfl)
theorem rest_45 (r : List UInt8) : restOf (45 :: r) = r := by
  rw [restOf]; exact if_pos (.inr rfl)
theorem rest_ne {c : UInt8} (h1 : c ≠ 43) (h2 : c ≠ 45) (r : List UInt8) : restOf (c :: r) = c :: r := by
  rw [restOf]; exact if_neg (fun h => h.elim h1 h2)
theorem minus_c (c : UInt8) (r : List UInt8) : minusOf (c :: r) = (c == 45) := by rw [minusOf]

theorem num_res (l : List UInt8) : numV l = resV (minusOf l) (restOf l) ∧ numOk l = resOk (minusOf l) (restOf l) := by
  apply res_of
  cases l with
  | nil => rfl
  | cons c r =>
    rw [minus_c]
    by_cases h1 : c = 43
    · subst h1
      rw [rest_43, parseIntB_plus]; rfl
    · by_cases h2 : c = 45
      · subst h2
        rw [rest_45, parseIntB_minus]; rfl
      · have n1 : c.toNat ≠ 43 := fun e => h1 (UInt8.toNat_inj.1 e)
        have n2 : c.toNat ≠ 45 := fun e => h2 (UInt8.toNat_inj.1 e)
        have : (c == 45) = false := by simpa using h2
        rw [rest_ne h1 h2, parseIntB_plain 64 c r n1 n2, this]; rfl
end Go.Proofs.YtgadnlnclpoeaaaDoor
