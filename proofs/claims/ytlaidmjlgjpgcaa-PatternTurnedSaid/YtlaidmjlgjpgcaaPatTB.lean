/- PatternTurned, plainly. No condition. -/
import Derived.Test.YtlaidmjlgjpgcaaPatSA
namespace Go.Proofs.Ytlaidmjlgjpgcaa

def bareL (l : List UInt8) : List Ch := l.map fun c => (c, false)
theorem ofL_bare (l : List UInt8) (h : ∀ c ∈ l, c ≠ 92) : ofL l = bareL l := by
  unfold bareL
  induction l with
  | nil => rfl
  | cons c l ih => rw [ofL_plain (h c (by simp)), ih (fun d hd => h d (by simp [hd]))]; rfl
theorem isAt_succ (x : Ch) (p : List Ch) (i : Nat) (b : UInt8) : isAt (x :: p) (i + 1) b = isAt p i b := by unfold isAt; rw [List.getElem?_cons_succ]
theorem chAt_succ (x : Ch) (p : List Ch) (i : Nat) : chAt (x :: p) (i + 1) = chAt p i := by unfold chAt; rw [List.getD_eq_getElem?_getD, List.getD_eq_getElem?_getD, List.getElem?_cons_succ]
theorem matchT_succ (x : Ch) (p : List Ch) (t : List UInt8) : ∀ i, matchT (x :: p) (i + 1) t = matchT p i t := by
  induction t with
  | nil => intro i; rfl
  | cons b t ih => intro i; rw [matchT, matchT, isAt_succ, ih]
theorem clsAt_succ (x : Ch) (p : List Ch) (i : Nat) : clsAt (x :: p) (i + 1) = clsAt p i := by
  unfold clsAt
  exact find_congr fun e _ => matchT_succ x p _ i
theorem memP_succ (x : Ch) (p : List Ch) (i : Nat) : memP (x :: p) (i + 1) = ((memP p i).1, (memP p i).2 + 1) := by
  unfold memP
  rw [clsAt_succ]
  cases clsAt p i with
  | some e => dsimp only
  | none =>
    dsimp only
    rw [show i + 1 + 1 = (i + 1) + 1 by rfl, isAt_succ, show i + 1 + 2 = (i + 2) + 1 by omega, isAt_succ, chAt_succ, chAt_succ, List.length_cons]
    by_cases h : isAt p (i + 1) 45 = true ∧ i + 2 < p.length ∧ isAt p (i + 2) 93 = false
    · rw [if_pos h, if_pos ⟨h.1, by omega, h.2.2⟩]
    · rw [if_neg h, if_neg (fun g => h ⟨g.1, by omega, g.2.2⟩)]
theorem mems_succ (x : Ch) (p : List Ch) (a : Nat) : ∀ (n i : Nat), p.length - i ≤ n → mems (x :: p) (a + 1) (i + 1) = (mems p a i).map fun m => (m.1, m.2 + 1) := by
  intro n
  induction n with
  | zero =>
    intro i h
    rw [mems_nil (p := x :: p) (.inl (by rw [List.length_cons]; omega)), mems_nil (.inl (by omega))]; rfl
  | succ n ih =>
    intro i h
    by_cases g : i < p.length ∧ (i = a ∨ isAt p i 93 = false)
    · have hn := memP_next p i g.1
      rw [mems_cons g.1 g.2, mems_cons (by rw [List.length_cons]; omega) (g.2.imp (by omega) (by rw [isAt_succ]; exact id)), memP_succ, ih _ (by omega)]
      rfl
    · rcases Nat.lt_or_ge i p.length with h1 | h1
      · have h2 : i ≠ a ∧ isAt p i 93 = true := ⟨fun e => g ⟨h1, .inl e⟩, by
          cases hx : isAt p i 93
          · exact absurd ⟨h1, .inr hx⟩ g
          · rfl⟩
        rw [mems_nil (.inr h2), mems_nil (.inr ⟨by omega, by rw [isAt_succ]; exact h2.2⟩)]; rfl
      · rw [mems_nil (.inl h1), mems_nil (.inl (by rw [List.length_cons]; omega))]; rfl
theorem brF_succ (l : List (Mem × Nat)) : ∀ (S : UInt8 → Bool) (i : Nat), brF (l.map fun m => (m.1, m.2 + 1)) (S, i + 1) = ((brF l (S, i)).1, (brF l (S, i)).2 + 1) := by
  induction l with
  | nil => intro S i; rfl
  | cons m l ih => intro S i; rw [List.map_cons, brF_cons, brF_cons, ih]
theorem brk_succ (x : Ch) (p : List Ch) (a : Nat) : brk (x :: p) (a + 1) = ((brk p a).1, (brk p a).2 + 1) := by
  unfold brk
  rw [mems_succ x p a _ a (Nat.le_refl _), brF_succ]

/-- The members and the bracket that closes. -/
def restL (ml : List UInt8) : List Ch := bareL ml ++ [(93, false)]
theorem restL_len (ml : List UInt8) : (restL ml).length = ml.length + 1 := by unfold restL bareL; simp
theorem restL_at {ml : List UInt8} {i : Nat} {c : UInt8} (h : ml[i]? = some c) (b : UInt8) : isAt (restL ml) i b = (c == b) := by
  have hi := (List.getElem?_eq_some_iff.1 h).1
  have : (restL ml)[i]? = some (c, false) := by
    unfold restL bareL
    rw [List.getElem?_append_left (by simpa using hi), List.getElem?_map, h]; rfl
  rw [isAt_some this]; unfold bareB; simp
theorem restL_end (ml : List UInt8) (b : UInt8) : isAt (restL ml) ml.length b = (93 == b) := by
  have : (restL ml)[ml.length]? = some (93, false) := by
    unfold restL bareL
    rw [List.getElem?_append_right (by simp)]; simp
  rw [isAt_some this]; unfold bareB; simp
theorem rest_end {ml : List UInt8} (h91 : ∀ c ∈ ml, c ≠ 91) (h93 : ∀ c ∈ ml, c ≠ 93) (h0 : ml ≠ []) : ∀ (n i : Nat) (S : UInt8 → Bool), ml.length - i ≤ n → i ≤ ml.length → (brF (mems (restL ml) 0 i) (S, i)).2 = ml.length := by
  have hpos : 0 < ml.length := List.length_pos_iff.2 h0
  intro n
  induction n with
  | zero =>
    intro i S h hi
    obtain rfl : i = ml.length := by omega
    rw [mems_nil (.inr ⟨by omega, by rw [restL_end]; rfl⟩)]; rfl
  | succ n ih =>
    intro i S h hi
    rcases Nat.lt_or_ge i ml.length with hlt | hge
    · obtain ⟨c, hc⟩ : ∃ c, ml[i]? = some c := ⟨_, List.getElem?_eq_getElem hlt⟩
      have hm := List.mem_of_getElem? hc
      have hn : i < (memP (restL ml) i).2 ∧ (memP (restL ml) i).2 ≤ ml.length := by
        have hcl : clsAt (restL ml) i = none := cls_not (by rw [restL_at hc]; exact beq_eq_false_iff_ne.2 (h91 c hm))
        have hx : (restL ml)[i]? = some ((restL ml)[i]'(by rw [restL_len]; omega)) := List.getElem?_eq_getElem _
        by_cases g : isAt (restL ml) (i + 1) 45 = true ∧ i + 2 < (restL ml).length ∧ isAt (restL ml) (i + 2) 93 = false
        · have hne : i + 2 ≠ ml.length := fun e => by
            have := g.2.2
            rw [e, restL_end] at this
            cases this
          have hy : (restL ml)[i + 2]? = some ((restL ml)[i + 2]'g.2.1) := List.getElem?_eq_getElem _
          rw [memP_span hcl g.1 g.2.1 g.2.2 hx hy]
          have := g.2.1
          rw [restL_len] at this
          exact ⟨by show i < i + 3; omega, by show i + 3 ≤ _; omega⟩
        · rw [memP_one hcl g hx]
          exact ⟨by show i < i + 1; omega, by show i + 1 ≤ _; omega⟩
      rw [mems_cons (by rw [restL_len]; omega) (.inr (by rw [restL_at hc]; exact beq_eq_false_iff_ne.2 (h93 c hm))), brF_cons]
      exact ih _ _ (by omega) hn.2
    · obtain rfl : i = ml.length := by omega
      rw [mems_nil (.inr ⟨by omega, by rw [restL_end]; rfl⟩)]; rfl
theorem mat_one {S : UInt8 → Bool} {c : UInt8} : Mat [⟨false, S⟩] [c] ↔ S c = true := by
  rw [mat_set rfl]
  constructor
  · rintro ⟨d, t, e, h, _⟩
    obtain ⟨rfl, -⟩ := List.cons.inj e
    exact h
  · exact fun h => ⟨c, [], rfl, h, rfl⟩
/-- With ! it matches just the bytes that it doesn't match without. -/
theorem turned {ml : List UInt8} (h91 : ∀ c ∈ ml, c ≠ 91) (h93 : ∀ c ∈ ml, c ≠ 93) (h0 : ml ≠ []) (h33 : ml[0]? ≠ some 33) (c : UInt8) : (Mat (els ((91, false) :: (33, false) :: restL ml) 0) [c] ↔ ¬ Mat (els ((91, false) :: restL ml) 0) [c]) := by
  have hpos : 0 < ml.length := List.length_pos_iff.2 h0
  have hE : (brk (restL ml) 0).2 = ml.length := rest_end h91 h93 h0 _ 0 _ (Nat.le_refl _) (Nat.zero_le _)
  obtain ⟨S, hS⟩ : ∃ S, (brk (restL ml) 0).1 = S := ⟨_, rfl⟩
  obtain ⟨c0, hc0⟩ : ∃ c, ml[0]? = some c := ⟨_, List.getElem?_eq_getElem hpos⟩
  have e33 : isAt (restL ml) 0 33 = false := by
    rw [restL_at hc0]
    exact beq_eq_false_iff_ne.2 (fun e => h33 (by rw [hc0, e]))
  have b1 : brAt ((91, false) :: restL ml) 0 = some (fun c => S c != false, ml.length + 2) := by
    unfold brAt
    rw [show brA ((91, false) :: restL ml) 0 = 0 + 1 by unfold brA; rw [isAt_succ, e33]; rfl, brk_succ, hS, hE, isAt_succ, e33, List.length_cons, restL_len, if_pos (by omega)]
  have b2 : brAt ((91, false) :: (33, false) :: restL ml) 0 = some (fun c => S c != true, ml.length + 3) := by
    unfold brAt
    have e : isAt ((91, false) :: (33, false) :: restL ml) (0 + 1) 33 = true := rfl
    rw [show brA ((91, false) :: (33, false) :: restL ml) 0 = 0 + 1 + 1 by unfold brA; rw [e]; rfl, brk_succ, brk_succ, hS, hE, e, List.length_cons, List.length_cons, restL_len, if_pos (by omega)]
  have m1 : els ((91, false) :: restL ml) 0 = [⟨false, fun c => S c != false⟩] := by
    rw [els_cons (by simp), elAt_br rfl rfl rfl b1, els_nil (by rw [List.length_cons, restL_len]; omega)]
  have m2 : els ((91, false) :: (33, false) :: restL ml) 0 = [⟨false, fun c => S c != true⟩] := by
    rw [els_cons (by simp), elAt_br rfl rfl rfl b2, els_nil (by rw [List.length_cons, List.length_cons, restL_len]; omega)]
  rw [m1, m2, mat_one, mat_one]
  cases S c <;> simp
theorem any_els : els [(63, false)] 0 = [⟨false, fun _ => true⟩] := by
  rw [els_cons (by decide), elAt_any (by decide) (by decide), els_nil (by decide)]
theorem any_two (c : UInt8) : ¬ Mat (els [(63, false)] 0) [c, c] := by
  rw [any_els, mat_set rfl]
  rintro ⟨d, t, e, _, h⟩
  rw [mat_nil] at h
  subst h
  cases e
theorem any_none : ¬ Mat (els [(63, false)] 0) [] := by rw [any_els]; exact mat_no_end rfl
theorem any_one (c : UInt8) : Mat (els [(63, false)] 0) [c] := by rw [any_els, mat_one]
end Go.Proofs.Ytlaidmjlgjpgcaa
