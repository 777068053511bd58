/- Expressions as plain data: operators, tokens, the worker's reading over whatever maker. No condition. -/
import Derived.Test.YtjbmpockoicgmaaGreatWrdA
namespace Go.Proofs.YtjbmpockoicgmaaGreat
open Go.RowKit Go.PlainAid
set_option linter.unusedVariables false

/-! ### Operators -/
def rankT : List (List UInt8 × Nat) := [([124, 124], 3), ([38, 38], 4), ([124], 5), ([94], 6), ([38], 7), ([61, 61], 8), ([33, 61], 8), ([60], 9), ([60, 61], 9), ([62], 9), ([62, 61], 9), ([60, 60], 10), ([62, 62], 10), ([43], 11), ([45], 11), ([42], 12), ([47], 12), ([37], 12)]
def rankL (l : List UInt8) : Nat := (rankT.lookup l).getD 0
def asgT : List (List UInt8) := [[61], [42, 61], [47, 61], [37, 61], [43, 61], [45, 61], [60, 60, 61], [62, 62, 61], [38, 61], [94, 61], [124, 61]]
def asgL (l : List UInt8) : Bool := asgT.any (fun k => l == k)
def oneT : List (List UInt8) := [[40], [41], [63], [58], [33], [126]]
def oneL (l : List UInt8) : Bool := oneT.any (fun k => l == k) || asgL l || decide (0 < rankL l)
/-! ### Tokens -/
structure Tk where
  kind : Nat
  text : ByteArray
  num : Int
def noT : ByteArray := ⟨#[]⟩
def tk0 : Tk := ⟨0, noT, 0⟩
def tk4 : Tk := ⟨4, noT, 0⟩
def digV (c : Int) : Int := if 48 ≤ c ∧ c ≤ 57 then c - 48 else if 97 ≤ c ∧ c ≤ 102 then c - 97 + 10 else if 65 ≤ c ∧ c ≤ 70 then c - 65 + 10 else 16
def partB (c : Int) : Bool := letB c || c == 95 || digB c
def numRun (s : ByteArray) (base : Int) : Nat → Nat → Int → Nat × Int
  | 0, k, n => (k, n)
  | f + 1, k, n => if k < s.size ∧ digV (bt s k) < base then numRun s base f (k + 1) (IntKind.u64.wrap (n * base + digV (bt s k))) else (k, n)
def hexB (s : ByteArray) : Bool := decide (2 < s.size ∧ bt s 0 = 48 ∧ (bt s 1 = 120 ∨ bt s 1 = 88) ∧ digV (bt s 2) < 16)
def baseOf (s : ByteArray) : Int := if hexB s then 16 else if 0 < s.size ∧ bt s 0 = 48 then 8 else 10
def firstOf (s : ByteArray) : Nat := if hexB s then 2 else 0
def numR (s : ByteArray) : Nat × Int := numRun s (baseOf s) s.size (firstOf s) 0
def numBad (s : ByteArray) : Bool := decide ((numR s).1 = firstOf s) || (decide ((numR s).1 < s.size) && partB (bt s (numR s).1))
def numM (s : ByteArray) : Int × Nat := if numBad s then (0, 0) else (IntKind.i64.wrap (numR s).2, (numR s).1)
def partRun (s : ByteArray) : Nat → Nat → Nat
  | 0, n => n
  | f + 1, n => if n < s.size ∧ partB (bt s n) = true then partRun s f (n + 1) else n
def nszA (s : ByteArray) : Nat := if isName (s.extract 0 (partRun s s.size 0)) then partRun s s.size 0 else 0
def opSz (s : ByteArray) : Nat → Nat
  | 0 => 0
  | n + 1 => if oneL (s.extract 0 (n + 1)).toList then n + 1 else opSz s n
def opSize (s : ByteArray) : Nat := opSz s (min 3 s.size)
def tokM (s : ByteArray) : Tk :=
  if s.size = 0 then tk0
  else if 48 ≤ bt s 0 ∧ bt s 0 ≤ 57 then (if 0 < (numM s).2 then ⟨1, s.extract 0 (numM s).2, (numM s).1⟩ else tk4)
  else if 0 < nszA s then ⟨2, s.extract 0 (nszA s), 0⟩
  else if 0 < opSize s then ⟨3, s.extract 0 (opSize s), 0⟩
  else tk4
def blankB (c : Int) : Bool := decide (c = 9 ∨ c = 10 ∨ c = 32)
def blanks (s : ByteArray) : Nat → Nat → Nat
  | 0, n => n
  | f + 1, n => if n < s.size ∧ blankB (bt s n) = true then blanks s f (n + 1) else n
def tokAt (s : ByteArray) (k : Nat) : Tk := tokM (s.extract (blanks s s.size k) s.size)
def lastTk (t : Tk) : Bool := decide (t.kind = 0 ∨ t.kind = 4)
def toksF (s : ByteArray) : Nat → Nat → List Tk
  | 0, _ => []
  | f + 1, k => if lastTk (tokAt s k) then [tokAt s k] else tokAt s k :: toksF s f (blanks s s.size k + (tokAt s k).text.size)
def toksM (s : ByteArray) : List Tk := toksF s (s.size + 1) 0

theorem partRun_le (s : ByteArray) : ∀ f n, n ≤ s.size → n ≤ partRun s f n ∧ partRun s f n ≤ s.size
  | 0, n, h => ⟨Nat.le_refl _, h⟩
  | f + 1, n, h => by
    unfold partRun
    split
    · rename_i h1
      have := partRun_le s f (n + 1) h1.1
      exact ⟨by omega, this.2⟩
    · exact ⟨Nat.le_refl _, h⟩
theorem numRun_le (s : ByteArray) (b : Int) : ∀ f n x, n ≤ s.size → n ≤ (numRun s b f n x).1 ∧ (numRun s b f n x).1 ≤ s.size
  | 0, n, _, h => ⟨Nat.le_refl _, h⟩
  | f + 1, n, x, h => by
    unfold numRun
    split
    · rename_i h1
      have := numRun_le s b f (n + 1) (IntKind.u64.wrap (x * b + digV (bt s n))) h1.1
      exact ⟨by omega, this.2⟩
    · exact ⟨Nat.le_refl _, h⟩
theorem blanks_le (s : ByteArray) : ∀ f n, n ≤ s.size → n ≤ blanks s f n ∧ blanks s f n ≤ s.size
  | 0, n, h => ⟨Nat.le_refl _, h⟩
  | f + 1, n, h => by
    unfold blanks
    split
    · rename_i h1
      have := blanks_le s f (n + 1) h1.1
      exact ⟨by omega, this.2⟩
    · exact ⟨Nat.le_refl _, h⟩
theorem first_le (s : ByteArray) : firstOf s ≤ s.size := by
  unfold firstOf
  split
  · rename_i h
    have h := of_decide_eq_true h
    omega
  · omega
theorem numM_le (s : ByteArray) : (numM s).2 ≤ s.size := by
  unfold numM
  split
  · exact Nat.zero_le _
  · exact (numRun_le s _ _ _ _ (first_le s)).2
theorem nszA_le (s : ByteArray) : nszA s ≤ s.size := by
  unfold nszA
  split
  · exact (partRun_le s _ 0 (Nat.zero_le _)).2
  · exact Nat.zero_le _
theorem opSz_le (s : ByteArray) : ∀ n, opSz s n ≤ n
  | 0 => Nat.le_refl _
  | n + 1 => by
    unfold opSz
    split
    · exact Nat.le_refl _
    · exact Nat.le_succ_of_le (opSz_le s n)
theorem opSize_le (s : ByteArray) : opSize s ≤ s.size := Nat.le_trans (opSz_le s _) (Nat.min_le_right _ _)
theorem tok_text (s : ByteArray) : (tokM s).text.size ≤ s.size := by
  unfold tokM
  split
  · exact Nat.zero_le _
  · split
    · split
      · show (s.extract _ _).size ≤ _; rw [ByteArray.size_extract]; omega
      · exact Nat.zero_le _
    · split
      · show (s.extract _ _).size ≤ _; rw [ByteArray.size_extract]; omega
      · split
        · show (s.extract _ _).size ≤ _; rw [ByteArray.size_extract]; omega
        · exact Nat.zero_le _
theorem tok_pos {s : ByteArray} (h : lastTk (tokM s) = false) : 0 < (tokM s).text.size := by
  unfold tokM at h ⊢
  have h1 := numM_le s
  have h2 := nszA_le s
  have h3 := opSize_le s
  split
  · rename_i e; rw [if_pos e] at h; exact absurd h (by decide)
  · rename_i e; rw [if_neg e] at h
    split
    · rename_i e; rw [if_pos e] at h
      split
      · show 0 < (s.extract _ _).size; rw [ByteArray.size_extract]; omega
      · rename_i e; rw [if_neg e] at h; exact absurd h (by decide)
    · rename_i e; rw [if_neg e] at h
      split
      · show 0 < (s.extract _ _).size; rw [ByteArray.size_extract]; omega
      · rename_i e; rw [if_neg e] at h
        split
        · show 0 < (s.extract _ _).size; rw [ByteArray.size_extract]; omega
        · rename_i e; rw [if_neg e] at h; exact absurd h (by decide)
theorem toksF_len (s : ByteArray) : ∀ f k, (toksF s f k).length ≤ f
  | 0, _ => Nat.le_refl _
  | f + 1, k => by
    unfold toksF
    split
    · show 1 ≤ f + 1; omega
    · exact Nat.succ_le_succ (toksF_len s f _)

/-! ### The worker over whatever maker -/
structure Mk (T σ : Type) where
  number : Int → T
  value : σ → ByteArray → T × Int
  ahead : ByteArray → T → T
  between : ByteArray → T → T → T × Int
  truth : T → Bool
  assign : σ → ByteArray → T → σ
  zero : T
structure Ws (σ : Type) where
  toks : List Tk
  deep : Int
  idle : Int
  err : Int
  ms : σ
inductive Lv (T : Type) where
  | asg | cho | bin (r : Nat) | lop (r : Nat) (x : T) | opd
section
variable {T σ : Type} (M : Mk T σ)
def failM (e : Int) (s : Ws σ) : Ws σ := if s.err = 0 ∧ e ≠ 0 then { s with err := e, toks := [] } else s
def peekM (s : Ws σ) : Tk := s.toks.headD tk0
def isM (op : List UInt8) (s : Ws σ) : Bool := decide ((peekM s).kind = 3) && (peekM s).text.toList == op
def nextM (s : Ws σ) : Ws σ := { s with toks := s.toks.tail }
def needM (op : List UInt8) (s : Ws σ) : Ws σ := nextM (if isM op s then s else failM 60 s)
def worksM (s : Ws σ) : Bool := decide (s.idle = 0) && decide (s.err = 0)
def deepM (f : Ws σ → T × Ws σ) (s : Ws σ) : T × Ws σ :=
  let s1 := { s with deep := s.deep + 1 }
  let r := f (if 24 < s1.deep then failM 52 s1 else s1)
  (r.1, { r.2 with deep := r.2.deep - 1 })
def asideM (b : Bool) (f : Ws σ → T × Ws σ) (s : Ws σ) : T × Ws σ :=
  if b then f s else
  let r := f { s with idle := s.idle + 1 }
  (r.1, { r.2 with idle := r.2.idle - 1 })
def logicM (b : Bool) : T := if b then M.number 1 else M.number 0
def valueM (nm : ByteArray) (s : Ws σ) : T × Ws σ := if worksM s then ((M.value s.ms nm).1, failM (M.value s.ms nm).2 s) else (M.zero, s)
def betwM (op : ByteArray) (x y : T) (s : Ws σ) : T × Ws σ := if worksM s then ((M.between op x y).1, failM (M.between op x y).2 s) else (M.zero, s)
def setM (nm : ByteArray) (x : T) (s : Ws σ) : Ws σ := if worksM s then { s with ms := M.assign s.ms nm x } else s
/-- An assignment stands ahead. -/
def asgs (s : Ws σ) : Bool := match s.toks with
  | a :: b :: _ => decide (a.kind = 2) && asgL b.text.toList
  | _ => false
def go : Nat → Lv T → Ws σ → T × Ws σ
  | 0, _, s => (M.zero, s)
  | f + 1, .asg, s =>
    if asgs s then
      let nm := (peekM s).text
      let s1 := nextM s
      let op := (peekM s1).text
      let op := op.extract 0 (op.size - 1)
      let s2 := nextM s1
      let v := if op.size = 0 then (M.zero, s2) else valueM M nm s2
      let r := deepM (go f .asg) v.2
      let b := if op.size = 0 then r else betwM M op v.1 r.1 r.2
      (b.1, setM M nm b.1 b.2)
    else go f .cho s
  | f + 1, .cho, s =>
    let r := go f (.bin 3) s
    if isM [63] r.2 then
      let t := M.truth r.1
      let y := deepM (asideM t (go f .asg)) (nextM r.2)
      let n := deepM (asideM (!t) (go f .cho)) (needM [58] y.2)
      (if t then y.1 else n.1, n.2)
    else r
  | f + 1, .bin r, s =>
    let x := go f .opd s
    go f (.lop r x.1) x.2
  | f + 1, .lop r x, s =>
    if (peekM s).kind = 3 ∧ r ≤ rankL (peekM s).text.toList then
      let op := (peekM s).text
      let t := M.truth x
      let s1 := nextM s
      let behind := go f (.bin (rankL op.toList + 1))
      if op.toList = [38, 38] then
        let y := asideM t behind s1
        go f (.lop r (logicM M (t && M.truth y.1))) y.2
      else if op.toList = [124, 124] then
        let y := asideM (!t) behind s1
        go f (.lop r (logicM M (t || M.truth y.1))) y.2
      else
        let y := behind s1
        let z := betwM M op x y.1 y.2
        go f (.lop r z.1) z.2
    else (x, s)
  | f + 1, .opd, s =>
    let t := peekM s
    let s1 := nextM s
    if t.kind = 1 then (M.number t.num, s1)
    else if t.kind = 2 then valueM M t.text s1
    else if t.text.toList = [40] then
      let r := deepM (go f .asg) s1
      (r.1, needM [41] r.2)
    else if t.text.toList = [43] ∨ t.text.toList = [45] ∨ t.text.toList = [33] ∨ t.text.toList = [126] then
      let r := deepM (go f .opd) s1
      (M.ahead t.text r.1, r.2)
    else (M.zero, failM 60 s1)

/-- How much a reading takes, by what is left. -/
def cost (n : Nat) : Lv T → Nat
  | .asg => 6 * n + 5
  | .cho => 6 * n + 4
  | .bin _ => 6 * n + 3
  | .lop _ _ => 6 * n + 2
  | .opd => 6 * n + 1
def workM (l : List Tk) (m : σ) : T × Int × σ :=
  if (l.headD tk0).kind = 0 then (M.number 0, 0, m) else
  let r := go M (6 * l.length + 5) .asg ⟨l, 0, 0, 0, m⟩
  let s := if (peekM r.2).kind = 0 then r.2 else failM 60 r.2
  (r.1, s.err, s.ms)
end
theorem failM_toks {σ : Type} (e : Int) (s : Ws σ) : (failM e s).toks.length ≤ s.toks.length := by
  unfold failM; split
  · exact Nat.zero_le _
  · exact Nat.le_refl _
theorem nextM_toks {σ : Type} (s : Ws σ) : (nextM s).toks.length = s.toks.length - 1 := List.length_tail ..
theorem needM_toks {σ : Type} (op : List UInt8) (s : Ws σ) : (needM op s).toks.length ≤ s.toks.length := by
  unfold needM
  rw [nextM_toks]
  split
  · omega
  · have := failM_toks 60 s; omega
theorem valueM_toks {T σ : Type} (M : Mk T σ) (nm : ByteArray) (s : Ws σ) : (valueM M nm s).2.toks.length ≤ s.toks.length := by
  unfold valueM; split
  · exact failM_toks _ _
  · exact Nat.le_refl _
theorem betwM_toks {T σ : Type} (M : Mk T σ) (op : ByteArray) (x y : T) (s : Ws σ) : (betwM M op x y s).2.toks.length ≤ s.toks.length := by
  unfold betwM; split
  · exact failM_toks _ _
  · exact Nat.le_refl _
theorem deepM_toks {T σ : Type} {f : Ws σ → T × Ws σ} (hf : ∀ s, (f s).2.toks.length ≤ s.toks.length) (s : Ws σ) : (deepM f s).2.toks.length ≤ s.toks.length := by
  unfold deepM
  refine Nat.le_trans (hf _) ?_
  split
  · exact failM_toks _ _
  · exact Nat.le_refl _
theorem asideM_toks {T σ : Type} {b : Bool} {f : Ws σ → T × Ws σ} (hf : ∀ s, (f s).2.toks.length ≤ s.toks.length) (s : Ws σ) : (asideM b f s).2.toks.length ≤ s.toks.length := by
  unfold asideM; split
  · exact hf _
  · exact hf _
theorem setM_toks {T σ : Type} (M : Mk T σ) (nm : ByteArray) (x : T) (s : Ws σ) : (setM M nm x s).toks.length ≤ s.toks.length := by
  unfold setM; split
  · exact Nat.le_refl _
  · exact Nat.le_refl _
theorem go_toks {T σ : Type} (M : Mk T σ) : ∀ f lv s, (go M f lv s).2.toks.length ≤ s.toks.length
  | 0, _, _ => by unfold go; exact Nat.le_refl _
  | f + 1, .asg, s => by
    unfold go
    have ih := go_toks M f
    split
    · have h2 : (nextM (nextM s)).toks.length ≤ s.toks.length := by rw [nextM_toks, nextM_toks]; omega
      dsimp only
      by_cases hz : ((peekM (nextM s)).text.extract 0 ((peekM (nextM s)).text.size - 1)).size = 0
      · simp only [hz, if_true]
        exact Nat.le_trans (setM_toks M _ _ _) (Nat.le_trans (deepM_toks (ih _) _) h2)
      · simp only [hz, if_false]
        exact Nat.le_trans (setM_toks M _ _ _) (Nat.le_trans (betwM_toks M _ _ _ _) (Nat.le_trans (deepM_toks (ih _) _) (Nat.le_trans (valueM_toks M _ _) h2)))
    · exact ih _ _
  | f + 1, .cho, s => by
    unfold go
    have ih := go_toks M f
    have h1 := ih (.bin 3) s
    dsimp only
    split
    · refine Nat.le_trans (deepM_toks (asideM_toks (ih _)) _) (Nat.le_trans (needM_toks _ _) (Nat.le_trans (deepM_toks (asideM_toks (ih _)) _) ?_))
      rw [nextM_toks]; omega
    · exact h1
  | f + 1, .bin r, s => by
    unfold go
    exact Nat.le_trans (go_toks M f _ _) (go_toks M f _ _)
  | f + 1, .lop r x, s => by
    unfold go
    have ih := go_toks M f
    have h1 : (nextM s).toks.length ≤ s.toks.length := by rw [nextM_toks]; omega
    split
    · dsimp only
      split
      · exact Nat.le_trans (ih _ _) (Nat.le_trans (asideM_toks (ih _) _) h1)
      · split
        · exact Nat.le_trans (ih _ _) (Nat.le_trans (asideM_toks (ih _) _) h1)
        · exact Nat.le_trans (ih _ _) (Nat.le_trans (betwM_toks M _ _ _ _) (Nat.le_trans (ih _ _) h1))
    · exact Nat.le_refl _
  | f + 1, .opd, s => by
    unfold go
    have ih := go_toks M f
    have h1 : (nextM s).toks.length ≤ s.toks.length := by rw [nextM_toks]; omega
    dsimp only
    split
    · exact h1
    · split
      · exact Nat.le_trans (valueM_toks M _ _) h1
      · split
        · exact Nat.le_trans (needM_toks _ _) (Nat.le_trans (deepM_toks (ih _) _) h1)
        · split
          · exact Nat.le_trans (deepM_toks (ih _) _) h1
          · exact Nat.le_trans (failM_toks _ _) h1
end Go.Proofs.YtjbmpockoicgmaaGreat
