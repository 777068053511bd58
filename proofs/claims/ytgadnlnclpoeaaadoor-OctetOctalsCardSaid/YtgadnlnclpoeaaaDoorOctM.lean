/- Plain facts on numerals: what ParseInt reads of digits with zeros ahead. No walk; no condition. -/
import Derived.Test.YtgadnlnclpoeaaaDoorOctB
import Derived.Lib.ParseIntBCases
import Derived.Lib.ItoaMem
import Derived.Lib.ItoaLen
namespace Go.Proofs.YtgadnlnclpoeaaaDoor
open Go.RowKit Go.Lib

/-- What digits spell behind a number. -/
def dval (acc : Nat) (l : List UInt8) : Nat := l.foldl (fun a c => a * 10 + (c.toNat - 48)) acc
theorem dval_nil (acc : Nat) : dval acc [] = acc := by unfold dval; rw [List.foldl_nil]
theorem dval_cons (acc : Nat) (c : UInt8) (r : List UInt8) : dval acc (c :: r) = dval (acc * 10 + (c.toNat - 48)) r := by unfold dval; rw [List.foldl_cons]
def isDig (c : UInt8) : Prop := 48 ≤ c.toNat ∧ c.toNat ≤ 57

theorem dval_ge (l : List UInt8) : ∀ acc, acc ≤ dval acc l := by
  induction l with
  | nil => intro acc; exact Nat.le_refl _
  | cons c r ih => intro acc; rw [dval_cons]; exact Nat.le_trans (by omega) (ih _)
theorem dval_append (l m : List UInt8) : ∀ acc, dval acc (l ++ m) = dval (dval acc l) m := by
  induction l with
  | nil => intro acc; rfl
  | cons c r ih => intro acc; exact ih _

theorem parse_ok {M : Nat} (hM : M ≤ 18446744073709551615) (l : List UInt8) : ∀ acc, (∀ c ∈ l, isDig c) → dval acc l ≤ M → parseUintM M acc l = .ok (dval acc l) := by
  induction l with
  | nil => intro acc _ _; rfl
  | cons c r ih =>
    intro acc hd hv
    obtain ⟨h1, h2⟩ := hd c (by simp)
    have hv' : dval (acc * 10 + (c.toNat - 48)) r ≤ M := hv
    have hg := dval_ge r (acc * 10 + (c.toNat - 48))
    rw [parseUintM, if_pos ⟨h1, h2⟩, if_neg (by omega), if_neg (by omega)]
    exact ih _ (fun c hc => hd c (by simp [hc])) hv'

theorem dig_of (d : Nat) (h : d < 10) : (UInt8.ofNat (48 + d)).toNat = 48 + d := by
  rw [UInt8.toNat_ofNat_of_lt' (by show 48 + d < 256; omega)]

theorem dec_dig (u : Nat) : ∀ c ∈ decDigits u, isDig c := by
  induction u using Nat.strongRecOn with
  | ind u ih =>
    rw [decDigits]
    split
    · intro c hc
      simp only [List.mem_cons, List.mem_nil_iff, or_false] at hc
      subst hc
      unfold isDig; rw [dig_of u (by omega)]; omega
    · intro c hc
      rcases List.mem_append.1 hc with h | h
      · exact ih (u / 10) (by omega) c h
      · simp only [List.mem_cons, List.mem_nil_iff, or_false] at h
        subst h
        unfold isDig; rw [dig_of (u % 10) (by omega)]; omega

theorem dec_dval (u : Nat) : dval 0 (decDigits u) = u := by
  induction u using Nat.strongRecOn with
  | ind u ih =>
    rw [decDigits]
    split
    · rw [dval_cons, dval_nil, dig_of u (by omega)]; omega
    · rw [dval_append, ih (u / 10) (by omega), dval_cons, dval_nil, dig_of (u % 10) (by omega)]; omega

theorem zeros_dval (k : Nat) (l : List UInt8) : dval 0 (List.replicate k 48 ++ l) = dval 0 l := by
  induction k with
  | zero => rfl
  | succ k ih => rw [List.replicate_succ, List.cons_append, dval_cons]; exact ih

theorem dec_ne (u : Nat) : decDigits u ≠ [] := by
  rw [decDigits]; split <;> simp

/-- A number's text with zeros ahead. -/
def zdec (k u : Nat) : List UInt8 := List.replicate k 48 ++ decDigits u
theorem zdec_dig (k u : Nat) : ∀ c ∈ zdec k u, isDig c := by
  intro c hc
  rcases List.mem_append.1 hc with h | h
  · rw [List.mem_replicate] at h
    obtain ⟨_, rfl⟩ := h
    exact ⟨by decide, by decide⟩
  · exact dec_dig u c h
theorem zdec_ne (k u : Nat) : zdec k u ≠ [] := by
  unfold zdec
  have := dec_ne u
  simp [this]

theorem zdec_parse (k u : Nat) (h : u < 18446744073709551616) : parseUintB 64 (zdec k u) = .ok u := by
  have hv : dval 0 (zdec k u) = u := (zeros_dval k _).trans (dec_dval u)
  rw [parseUintB, if_neg (zdec_ne k u), parse_ok (by decide) _ _ (zdec_dig k u) (by rw [hv]; omega), hv]

theorem zdec_head (k u : Nat) : ∃ c r, zdec k u = c :: r ∧ c.toNat ≠ 43 ∧ c.toNat ≠ 45 := by
  cases h : zdec k u with
  | nil => exact absurd h (zdec_ne k u)
  | cons c r =>
    have := zdec_dig k u c (by rw [h]; simp)
    unfold isDig at this
    exact ⟨c, r, rfl, by omega, by omega⟩

theorem zdec_int (k u : Nat) (h : u < 9223372036854775808) : parseIntB 64 (zdec k u) = .ok u := by
  obtain ⟨c, r, e, h1, h2⟩ := zdec_head k u
  rw [e, parseIntB_plain 64 c r h1 h2, ← e, zdec_parse k u (by omega)]
  exact if_neg (by have : (2 ^ (64 - 1) : Nat) = 9223372036854775808 := by decide
                   omega)
theorem zdec_plus (k u : Nat) (h : u < 9223372036854775808) : parseIntB 64 (43 :: zdec k u) = .ok u := by
  rw [parseIntB_plus, zdec_parse k u (by omega)]
  exact if_neg (by have : (2 ^ (64 - 1) : Nat) = 9223372036854775808 := by decide
                   omega)
theorem zdec_minus (k u : Nat) (h : u ≤ 9223372036854775808) : parseIntB 64 (45 :: zdec k u) = .ok (-(u : Int)) := by
  rw [parseIntB_minus, zdec_parse k u (by omega)]
  exact if_neg (by have : (2 ^ (64 - 1) : Nat) = 9223372036854775808 := by decide
                   omega)
theorem zdec_twice (k u : Nat) : numOk (45 :: 45 :: zdec k u) = false := by
  have : parseIntB 64 (45 :: 45 :: zdec k u) = parseIntB 64 [] := by
    rw [parseIntB_minus, parseUintB, if_neg (by simp), parseUintM, if_neg (by decide)]
    rfl
  unfold numOk
  rw [this]
  rfl

theorem zero_itoa (u : Nat) : itoa (u : Int) = zdec 0 u := itoa_nonneg u

theorem num_itoa (n : Int) (h0 : -9223372036854775808 ≤ n) (h1 : n ≤ 9223372036854775807) : parseIntB 64 (itoa n) = .ok n := by
  by_cases h : n < 0
  · obtain ⟨u, rfl⟩ : ∃ u : Nat, n = -(u : Int) := ⟨n.natAbs, by omega⟩
    rw [itoa_neg u (by omega)]
    exact zdec_minus 0 u (by omega)
  · obtain ⟨u, rfl⟩ : ∃ u : Nat, n = (u : Int) := ⟨n.toNat, by omega⟩
    rw [itoa_nonneg u]
    exact zdec_int 0 u (by omega)
theorem numV_of {l : List UInt8} {v : Int} (h : parseIntB 64 l = .ok v) : numV l = v := by unfold numV; rw [h]
theorem numOk_of {l : List UInt8} {v : Int} (h : parseIntB 64 l = .ok v) : numOk l = true := by unfold numOk; rw [h]
end Go.Proofs.YtgadnlnclpoeaaaDoor
