/- Classes, members, brackets, elements of a pattern, plainly. No condition. -/
import Derived.Test.YtlaidmjlgjpgcaaPatM
namespace Go.Proofs.Ytlaidmjlgjpgcaa

structure Sp where
  a : UInt8
  b : UInt8
def inSp (s : Sp) (c : UInt8) : Bool := decide (s.a.toNat ≤ c.toNat ∧ c.toNat ≤ s.b.toNat)
abbrev Mem := Sp × Sp × Sp
def inMem (m : Mem) (c : UInt8) : Bool := inSp m.1 c || inSp m.2.1 c || inSp m.2.2 c
def noSp : Sp := ⟨1, 0⟩
def oneM (s : Sp) : Mem := (s, noSp, noSp)
theorem inSp_no (c : UInt8) : inSp noSp c = false := decide_eq_false (by unfold noSp; show ¬ (1 ≤ c.toNat ∧ c.toNat ≤ 0); omega)
theorem inMem_one (s : Sp) (c : UInt8) : inMem (oneM s) c = inSp s c := by unfold inMem oneM; simp [inSp_no]

def bareB (x : Ch) (b : UInt8) : Bool := x.1 == b && !x.2
def isAt (p : List Ch) (i : Nat) (b : UInt8) : Bool := match p[i]? with | some x => bareB x b | none => false
theorem isAt_some {p : List Ch} {i : Nat} {b : UInt8} {x : Ch} (h : p[i]? = some x) : isAt p i b = bareB x b := by unfold isAt; rw [h]
theorem isAt_none {p : List Ch} {i : Nat} {b : UInt8} (h : p.length ≤ i) : isAt p i b = false := by unfold isAt; rw [List.getElem?_eq_none h]
theorem isAt_lt {p : List Ch} {i : Nat} {b : UInt8} (h : isAt p i b = true) : i < p.length := by
  rcases Nat.lt_or_ge i p.length with g | g
  · exact g
  · rw [isAt_none g] at h; cases h
theorem isAt_iff {p : List Ch} {i : Nat} {b : UInt8} : isAt p i b = true ↔ p[i]? = some (b, false) := by
  unfold isAt
  cases h : p[i]? with
  | none => simp
  | some x =>
    obtain ⟨c, q⟩ := x
    cases q <;> simp [bareB]
theorem isAt_inj {p : List Ch} {i : Nat} {a b : UInt8} (h : isAt p i a = true) (h' : isAt p i b = true) : a = b := by
  rw [isAt_iff] at h h'
  rw [h] at h'
  exact congrArg Prod.fst (Option.some.inj h')
def chAt (p : List Ch) (i : Nat) : Ch := p.getD i (0, false)
theorem chAt_some {p : List Ch} {i : Nat} {x : Ch} (h : p[i]? = some x) : chAt p i = x := by unfold chAt; rw [List.getD_eq_getElem?_getD, h]; rfl

def clsTab : List (List UInt8 × Mem) := [([97, 108, 112, 104, 97], (⟨65, 90⟩, ⟨97, 122⟩, noSp)), ([100, 105, 103, 105, 116], oneM ⟨48, 57⟩), ([97, 108, 110, 117, 109], (⟨65, 90⟩, ⟨97, 122⟩, ⟨48, 57⟩)), ([117, 112, 112, 101, 114], oneM ⟨65, 90⟩), ([108, 111, 119, 101, 114], oneM ⟨97, 122⟩), ([115, 112, 97, 99, 101], (⟨9, 13⟩, ⟨32, 32⟩, noSp))]
theorem clsTab_five {e : List UInt8 × Mem} (h : e ∈ clsTab) : e.1.length = 5 ∧ (58 : UInt8) ∉ e.1 := by
  unfold clsTab at h
  simp only [List.mem_cons, List.not_mem_nil, or_false] at h
  rcases h with rfl | rfl | rfl | rfl | rfl | rfl <;> exact ⟨rfl, by decide⟩
def clsText (nm : List UInt8) : List UInt8 := 91 :: 58 :: (nm ++ [58, 93])
def matchT (p : List Ch) : Nat → List UInt8 → Bool
  | _, [] => true
  | i, b :: t => isAt p i b && matchT p (i + 1) t
theorem matchT_iff (p : List Ch) (t : List UInt8) : ∀ i, matchT p i t = true ↔ ∀ k b, t[k]? = some b → isAt p (i + k) b = true := by
  induction t with
  | nil => intro i; simp [matchT]
  | cons c t ih =>
    intro i
    rw [matchT, Bool.and_eq_true, ih]
    constructor
    · rintro ⟨h1, h2⟩ k b hk
      cases k with
      | zero => obtain rfl : c = b := by simpa using hk
                exact h1
      | succ k => have := h2 k b (by simpa using hk); rwa [show i + 1 + k = i + (k + 1) by omega] at this
    · intro h
      refine ⟨h 0 c rfl, fun k b hk => ?_⟩
      have := h (k + 1) b (by simpa using hk)
      rwa [show i + (k + 1) = i + 1 + k by omega] at this
def clsAt (p : List Ch) (i : Nat) : Option (List UInt8 × Mem) := clsTab.find? fun e => matchT p i (clsText e.1)
theorem clsText_get (nm : List UInt8) (h5 : nm.length = 5) : (clsText nm)[0]? = some 91 ∧ (clsText nm)[1]? = some 58 ∧ (∀ k, k < 5 → (clsText nm)[k + 2]? = nm[k]?) ∧ (clsText nm)[7]? = some 58 ∧ (clsText nm)[8]? = some 93 := by
  match nm, h5 with
  | [a, b, c, d, e], _ =>
    refine ⟨rfl, rfl, fun k hk => ?_, rfl, rfl⟩
    have : k = 0 ∨ k = 1 ∨ k = 2 ∨ k = 3 ∨ k = 4 := by omega
    rcases this with rfl | rfl | rfl | rfl | rfl <;> rfl
theorem clsText_iff {p : List Ch} {i : Nat} {nm : List UInt8} (h5 : nm.length = 5) : matchT p i (clsText nm) = true ↔ isAt p i 91 = true ∧ isAt p (i + 1) 58 = true ∧ (∀ k b, nm[k]? = some b → isAt p (i + 2 + k) b = true) ∧ isAt p (i + 7) 58 = true ∧ isAt p (i + 8) 93 = true := by
  obtain ⟨g0, g1, g2, g7, g8⟩ := clsText_get nm h5
  rw [matchT_iff]
  constructor
  · intro h
    refine ⟨h 0 _ g0, h 1 _ g1, fun k b hk => ?_, h 7 _ g7, h 8 _ g8⟩
    have hk5 : k < 5 := by have := (List.getElem?_eq_some_iff.1 hk).1; omega
    have := h (k + 2) b (by rw [g2 k hk5]; exact hk)
    rwa [show i + (k + 2) = i + 2 + k by omega] at this
  · rintro ⟨h0, h1, h2, h7, h8⟩ k b hk
    have hk9 : k < 9 := by
      have := (List.getElem?_eq_some_iff.1 hk).1
      unfold clsText at this
      simp [h5] at this
      omega
    by_cases e0 : k = 0
    · subst e0; rw [g0] at hk; cases hk; exact h0
    by_cases e1 : k = 1
    · subst e1; rw [g1] at hk; cases hk; exact h1
    by_cases e7 : k = 7
    · subst e7; rw [g7] at hk; cases hk; exact h7
    by_cases e8 : k = 8
    · subst e8; rw [g8] at hk; cases hk; exact h8
    have := g2 (k - 2) (by omega)
    rw [show k - 2 + 2 = k by omega, hk] at this
    have := h2 (k - 2) b this.symm
    rwa [show i + 2 + (k - 2) = i + k by omega] at this
/-- The word read so far: the bytes behind the two that open a class. -/
def Word (p : List Ch) (i : Nat) (w : List UInt8) : Prop := w.length ≤ 5 ∧ ∀ k b, w[k]? = some b → isAt p (i + 2 + k) b = true ∧ b ≠ 58
theorem cls_closed {p : List Ch} {i : Nat} {w : List UInt8} (hw : Word p i w) (h0 : isAt p i 91 = true) (h1 : isAt p (i + 1) 58 = true) (hc : isAt p (i + 2 + w.length) 58 = true) {e : List UInt8 × Mem} (he : e ∈ clsTab) :
    matchT p i (clsText e.1) = (e.1 == w && isAt p (i + 2 + w.length + 1) 93) := by
  obtain ⟨h5, hno⟩ := clsTab_five he
  rw [Bool.eq_iff_iff, clsText_iff h5, Bool.and_eq_true, beq_iff_eq]
  constructor
  · rintro ⟨_, _, g2, g7, g8⟩
    have hl : w.length = 5 := by
      rcases Nat.lt_or_ge w.length 5 with g | g
      · obtain ⟨b, hb⟩ : ∃ b, e.1[w.length]? = some b := ⟨_, List.getElem?_eq_getElem (by omega)⟩
        have := isAt_inj (g2 _ _ hb) hc
        subst this
        exact absurd (List.mem_of_getElem? hb) hno
      · have := hw.1; omega
    refine ⟨List.ext_getElem? fun k => ?_, by rw [hl]; exact g8⟩
    by_cases hk : k < 5
    · obtain ⟨b, hb⟩ : ∃ b, e.1[k]? = some b := ⟨_, List.getElem?_eq_getElem (by omega)⟩
      obtain ⟨b', hb'⟩ : ∃ b', w[k]? = some b' := ⟨_, List.getElem?_eq_getElem (by omega)⟩
      rw [hb, hb', isAt_inj (g2 _ _ hb) (hw.2 _ _ hb').1]
    · rw [List.getElem?_eq_none (by omega), List.getElem?_eq_none (by omega)]
  · rintro ⟨rfl, g⟩
    rw [h5] at g hc
    exact ⟨h0, h1, fun k b hk => (hw.2 k b hk).1, hc, g⟩
theorem cls_stop {p : List Ch} {i : Nat} {w : List UInt8} (hw : Word p i w) (hs : (p.length ≤ i + 2 + w.length + 1) ∨ (∃ x, p[i + 2 + w.length]? = some x ∧ x.2 = true) ∨ (w.length = 5 ∧ isAt p (i + 2 + w.length) 58 = false)) {e : List UInt8 × Mem} (he : e ∈ clsTab) :
    matchT p i (clsText e.1) = false := by
  obtain ⟨h5, hno⟩ := clsTab_five he
  refine Bool.eq_false_iff.2 fun h => ?_
  obtain ⟨_, _, g2, g7, g8⟩ := (clsText_iff h5).1 h
  have hat : ∃ b, isAt p (i + 2 + w.length) b = true ∧ (w.length = 5 → b = 58) := by
    rcases Nat.lt_or_ge w.length 5 with g | g
    · obtain ⟨b, hb⟩ : ∃ b, e.1[w.length]? = some b := ⟨_, List.getElem?_eq_getElem (by omega)⟩
      exact ⟨b, g2 _ _ hb, fun h => by omega⟩
    · have : w.length = 5 := by have := hw.1; omega
      exact ⟨58, by rw [this]; exact g7, fun _ => rfl⟩
  obtain ⟨b, hb, hb5⟩ := hat
  have h8 := isAt_lt g8
  have hl := hw.1
  rcases hs with hs | ⟨x, hx, hq⟩ | ⟨hw5, hs⟩
  · omega
  · rw [isAt_some hx] at hb
    unfold bareB at hb
    rw [hq] at hb
    simp at hb
  · rw [hb5 hw5, hs] at hb
    cases hb
theorem cls_open {p : List Ch} {i : Nat} (h : isAt p i 91 = false ∨ isAt p (i + 1) 58 = false) {e : List UInt8 × Mem} (he : e ∈ clsTab) : matchT p i (clsText e.1) = false := by
  obtain ⟨h5, _⟩ := clsTab_five he
  refine Bool.eq_false_iff.2 fun h' => ?_
  obtain ⟨g0, g1, _⟩ := (clsText_iff h5).1 h'
  rcases h with h | h
  · rw [h] at g0; cases g0
  · rw [h] at g1; cases g1
theorem find_none {α : Type} {l : List α} {f : α → Bool} (h : ∀ e ∈ l, f e = false) : l.find? f = none := List.find?_eq_none.2 fun e he => by simp [h e he]
theorem find_congr {α : Type} {l : List α} {f g : α → Bool} (h : ∀ e ∈ l, f e = g e) : l.find? f = l.find? g := by
  induction l with
  | nil => rfl
  | cons a l ih =>
    rw [List.find?_cons, List.find?_cons, h a (by simp), ih (fun e he => h e (by simp [he]))]
/-- A word's class. -/
def lookW (w : List UInt8) : Option Mem := (clsTab.find? fun e => e.1 == w).map (·.2)
theorem clsAt_closed {p : List Ch} {i : Nat} {w : List UInt8} (hw : Word p i w) (h0 : isAt p i 91 = true) (h1 : isAt p (i + 1) 58 = true) (hc : isAt p (i + 2 + w.length) 58 = true) :
    (clsAt p i).map (·.2) = if isAt p (i + 2 + w.length + 1) 93 = true then lookW w else none := by
  unfold clsAt lookW
  rw [find_congr (fun e he => cls_closed hw h0 h1 hc he)]
  cases isAt p (i + 2 + w.length + 1) 93
  · simp only [Bool.and_false]
    rw [find_none (fun _ _ => rfl)]; rfl
  · simp
theorem clsAt_len {p : List Ch} {i : Nat} {e : List UInt8 × Mem} (h : clsAt p i = some e) : i + 9 ≤ p.length ∧ e ∈ clsTab := by
  unfold clsAt at h
  have h1 := List.mem_of_find?_eq_some h
  have h2 := List.find?_some h
  obtain ⟨h5, _⟩ := clsTab_five h1
  have := isAt_lt ((clsText_iff h5).1 h2).2.2.2.2
  exact ⟨by omega, h1⟩
theorem lookW_five {w : List UInt8} {m : Mem} (h : lookW w = some m) : w.length = 5 := by
  unfold lookW at h
  cases hf : clsTab.find? (fun e => e.1 == w) with
  | none => rw [hf] at h; cases h
  | some e =>
    have h1 := List.mem_of_find?_eq_some hf
    have h2 := List.find?_some hf
    rw [beq_iff_eq] at h2
    rw [← h2]; exact (clsTab_five h1).1

/-- The member at a place, and the place behind it. -/
def memP (p : List Ch) (i : Nat) : Mem × Nat :=
  match clsAt p i with
  | some e => (e.2, i + 9)
  | none => if isAt p (i + 1) 45 = true ∧ i + 2 < p.length ∧ isAt p (i + 2) 93 = false then (oneM ⟨(chAt p i).1, (chAt p (i + 2)).1⟩, i + 3) else (oneM ⟨(chAt p i).1, (chAt p i).1⟩, i + 1)
theorem memP_next (p : List Ch) (i : Nat) (h : i < p.length) : i < (memP p i).2 ∧ (memP p i).2 ≤ p.length := by
  unfold memP
  cases hc : clsAt p i with
  | some e => have := (clsAt_len hc).1; exact ⟨by show i < i + 9; omega, this⟩
  | none =>
    dsimp only
    split
    · rename_i g; exact ⟨by show i < i + 3; omega, by show i + 3 ≤ _; omega⟩
    · exact ⟨by show i < i + 1; omega, h⟩
/-- The members from a place on; the first place may be a ]. -/
def mems (p : List Ch) (a i : Nat) : List (Mem × Nat) :=
  if _h : i < p.length ∧ (i = a ∨ isAt p i 93 = false) then memP p i :: mems p a (memP p i).2 else []
termination_by p.length - i
decreasing_by have := memP_next p i _h.1; omega
theorem mems_cons {p : List Ch} {a i : Nat} (h : i < p.length) (h2 : i = a ∨ isAt p i 93 = false) : mems p a i = memP p i :: mems p a (memP p i).2 := by rw [mems, dif_pos ⟨h, h2⟩]
theorem mems_nil {p : List Ch} {a i : Nat} (h : p.length ≤ i ∨ (i ≠ a ∧ isAt p i 93 = true)) : mems p a i = [] := by
  rw [mems, dif_neg]
  rintro ⟨h1, h2⟩
  rcases h with h | ⟨h3, h4⟩
  · omega
  · rcases h2 with h2 | h2
    · exact h3 h2
    · rw [h4] at h2; cases h2
/-- What members add up to, and the last one's end. -/
def brF (l : List (Mem × Nat)) (r : (UInt8 → Bool) × Nat) : (UInt8 → Bool) × Nat := l.foldl (fun r m => (fun c => r.1 c || inMem m.1 c, m.2)) r
def brk (p : List Ch) (a : Nat) : (UInt8 → Bool) × Nat := brF (mems p a a) (fun _ => false, a)
theorem brF_cons (m : Mem × Nat) (l : List (Mem × Nat)) (r : (UInt8 → Bool) × Nat) : brF (m :: l) r = brF l (fun c => r.1 c || inMem m.1 c, m.2) := rfl
theorem brF_end (p : List Ch) (a : Nat) : ∀ (n i : Nat) (S : UInt8 → Bool), p.length - i ≤ n → i ≤ p.length → a ≤ i → (brF (mems p a i) (S, i)).2 ≤ p.length ∧ i ≤ (brF (mems p a i) (S, i)).2 ∧ ((brF (mems p a i) (S, i)).2 < p.length → isAt p (brF (mems p a i) (S, i)).2 93 = true ∧ a < (brF (mems p a i) (S, i)).2) := by
  intro n
  induction n with
  | zero =>
    intro i S h1 h2 h3
    rw [mems_nil (.inl (by omega))]
    exact ⟨h2, Nat.le_refl _, fun h => by have : i < p.length := h; omega⟩
  | succ n ih =>
    intro i S h1 h2 h3
    by_cases h : i < p.length ∧ (i = a ∨ isAt p i 93 = false)
    · have hn := memP_next p i h.1
      rw [mems_cons h.1 h.2, brF_cons]
      have := ih (memP p i).2 (fun c => S c || inMem (memP p i).1 c) (by omega) hn.2 (by omega)
      exact ⟨this.1, Nat.le_trans (Nat.le_of_lt hn.1) this.2.1, this.2.2⟩
    · rcases Nat.lt_or_ge i p.length with g | g
      · have h4 : i ≠ a ∧ isAt p i 93 = true := ⟨fun e => h ⟨g, .inl e⟩, by
          cases hx : isAt p i 93
          · exact absurd ⟨g, .inr hx⟩ h
          · rfl⟩
        rw [mems_nil (.inr h4)]
        exact ⟨h2, Nat.le_refl _, fun _ => ⟨h4.2, by show a < i; omega⟩⟩
      · rw [mems_nil (.inl g)]
        exact ⟨h2, Nat.le_refl _, fun h => by have : i < p.length := h; omega⟩
/-- Where a bracket's members begin. -/
def brA (p : List Ch) (i : Nat) : Nat := if isAt p (i + 1) 33 = true then i + 2 else i + 1
/-- A bracket: what it matches, the place behind it. -/
def brAt (p : List Ch) (i : Nat) : Option ((UInt8 → Bool) × Nat) :=
  if (brk p (brA p i)).2 < p.length then some (fun c => (brk p (brA p i)).1 c != isAt p (i + 1) 33, (brk p (brA p i)).2 + 1) else none
theorem brA_gt (p : List Ch) (i : Nat) : i < brA p i := by unfold brA; split <;> omega
theorem brk_end (p : List Ch) (a : Nat) (h : a ≤ p.length) : (brk p a).2 ≤ p.length ∧ a ≤ (brk p a).2 ∧ ((brk p a).2 < p.length → isAt p (brk p a).2 93 = true ∧ a < (brk p a).2) :=
  brF_end p a _ a _ (Nat.le_refl _) h (Nat.le_refl _)
theorem brk_far (p : List Ch) (a : Nat) (h : p.length ≤ a) : (brk p a).2 = a := by unfold brk; rw [mems_nil (.inl h)]; rfl
theorem brAt_next {p : List Ch} {i : Nat} {S : UInt8 → Bool} {e : Nat} (h : brAt p i = some (S, e)) : i + 1 < e ∧ e ≤ p.length ∧ isAt p (e - 1) 93 = true := by
  unfold brAt at h
  split at h
  · rename_i g
    cases h
    have h1 := brA_gt p i
    rcases Nat.lt_or_ge p.length (brA p i) with g2 | g2
    · rw [brk_far p _ (by omega)] at g; omega
    · obtain ⟨h2, h3, h4⟩ := brk_end p _ g2
      obtain ⟨h5, h6⟩ := h4 g
      exact ⟨by omega, by omega, by rw [Nat.add_sub_cancel]; exact h5⟩
  · cases h

/-- The element at a place, and the place behind it. -/
def elAt (p : List Ch) (i : Nat) : El × Nat :=
  if isAt p i 42 = true then (⟨true, fun _ => false⟩, i + 1)
  else if isAt p i 63 = true then (⟨false, fun _ => true⟩, i + 1)
  else if isAt p i 91 = true then
    match brAt p i with
    | some (S, e) => (⟨false, S⟩, e)
    | none => (⟨false, fun c => c == (chAt p i).1⟩, i + 1)
  else (⟨false, fun c => c == (chAt p i).1⟩, i + 1)
theorem elAt_next (p : List Ch) (i : Nat) (h : i < p.length) : i < (elAt p i).2 ∧ (elAt p i).2 ≤ p.length := by
  unfold elAt
  split
  · exact ⟨by show i < i + 1; omega, h⟩
  · split
    · exact ⟨by show i < i + 1; omega, h⟩
    · split
      · cases hb : brAt p i with
        | none => exact ⟨by show i < i + 1; omega, h⟩
        | some r => obtain ⟨S, e⟩ := r
                    have := brAt_next hb
                    exact ⟨by show i < e; omega, this.2.1⟩
      · exact ⟨by show i < i + 1; omega, h⟩
def els (p : List Ch) (i : Nat) : List El := if _h : i < p.length then (elAt p i).1 :: els p (elAt p i).2 else []
termination_by p.length - i
decreasing_by have := elAt_next p i _h; omega
theorem els_cons {p : List Ch} {i : Nat} (h : i < p.length) : els p i = (elAt p i).1 :: els p (elAt p i).2 := by rw [els, dif_pos h]
theorem els_nil {p : List Ch} {i : Nat} (h : p.length ≤ i) : els p i = [] := by rw [els, dif_neg (by omega)]
theorem els_len (p : List Ch) : ∀ (n i : Nat), p.length - i ≤ n → (els p i).length ≤ p.length - i := by
  intro n
  induction n with
  | zero => intro i h; rw [els_nil (by omega)]; simp
  | succ n ih =>
    intro i h
    rcases Nat.lt_or_ge i p.length with g | g
    · have h1 := elAt_next p i g
      have h2 := ih (elAt p i).2 (by omega)
      rw [els_cons g, List.length_cons]
      omega
    · rw [els_nil g]; simp
/-- A byte of a pattern without brackets. -/
def el1 (x : Ch) : El := if bareB x 42 = true then ⟨true, fun _ => false⟩ else if bareB x 63 = true then ⟨false, fun _ => true⟩ else ⟨false, fun c => c == x.1⟩
theorem elAt_plain {p : List Ch} {i : Nat} {x : Ch} (h : p[i]? = some x) (hb : bareB x 91 = false) : elAt p i = (el1 x, i + 1) := by
  unfold elAt el1
  rw [isAt_some h, isAt_some h, isAt_some h, chAt_some h, hb]
  split
  · rfl
  · split
    · rfl
    · simp
theorem els_plain (p : List Ch) (hp : ∀ x ∈ p, bareB x 91 = false) : ∀ (n i : Nat), p.length - i ≤ n → els p i = (p.drop i).map el1 := by
  intro n
  induction n with
  | zero => intro i h; rw [els_nil (by omega), List.drop_eq_nil_of_le (by omega)]; rfl
  | succ n ih =>
    intro i h
    rcases Nat.lt_or_ge i p.length with g | g
    · obtain ⟨x, hx⟩ : ∃ x, p[i]? = some x := ⟨_, List.getElem?_eq_getElem g⟩
      have e := elAt_plain hx (hp x (List.mem_of_getElem? hx))
      rw [els_cons g, e]
      obtain ⟨h1, h2⟩ := List.getElem?_eq_some_iff.1 hx
      rw [List.drop_eq_getElem_cons h1, h2, List.map_cons, ih (i + 1) (by omega)]
    · rw [els_nil g, List.drop_eq_nil_of_le g]; rfl
end Go.Proofs.Ytlaidmjlgjpgcaa
