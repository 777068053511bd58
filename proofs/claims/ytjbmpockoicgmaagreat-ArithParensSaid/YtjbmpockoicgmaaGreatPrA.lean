/- A reading within parentheses is the reading without, one deeper. No condition. -/
import Derived.Test.YtjbmpockoicgmaaGreatArN
namespace Go.Proofs.YtjbmpockoicgmaaGreat
open Go.RowKit Go.PlainAid
set_option linter.unusedVariables false
set_option linter.unusedSimpArgs false
set_option linter.unusedSectionVars false
/-- The closing parenthesis. -/
def rpT : Tk := ⟨3, ⟨#[41]⟩, 0⟩
theorem no_l : noT.toList = [] := by kernel_rfl
theorem tk0_l : tk0.text.toList = [] := by kernel_rfl
theorem rp_l : rpT.text.toList = [41] := by kernel_rfl
section
variable {T σ : Type} (M : Mk T σ)

/-! ### An error stays -/
theorem failM_err {e : Int} {s : Ws σ} (h : s.err ≠ 0) : failM e s = s := by unfold failM; rw [if_neg (fun k => h k.1)]
theorem needM_err {op : List UInt8} {s : Ws σ} (h : s.err ≠ 0) : (needM op s).err = s.err := by
  unfold needM
  rw [failM_err h, ite_self]
  rfl
def Er (f : Ws σ → T × Ws σ) : Prop := ∀ s, s.err ≠ 0 → (f s).2.err = s.err
theorem deepM_err {f : Ws σ → T × Ws σ} (hf : Er f) : Er (deepM f) := fun s h => by
  unfold deepM
  dsimp only
  rw [failM_err (s := { s with deep := s.deep + 1 }) h, ite_self]
  exact hf { s with deep := s.deep + 1 } h
theorem asideM_err {b : Bool} {f : Ws σ → T × Ws σ} (hf : Er f) : Er (asideM b f) := fun s h => by
  unfold asideM
  split
  · exact hf s h
  · exact hf { s with idle := s.idle + 1 } h
theorem valueM_err (nm : ByteArray) : Er (valueM M nm) := fun s h => by
  unfold valueM
  split
  · show (failM _ s).err = _; rw [failM_err h]
  · rfl
theorem betwM_err (op : ByteArray) (x y : T) : Er (betwM M op x y) := fun s h => by
  unfold betwM
  split
  · show (failM _ s).err = _; rw [failM_err h]
  · rfl
theorem setM_err (nm : ByteArray) (x : T) (s : Ws σ) : (setM M nm x s).err = s.err := by unfold setM; split <;> rfl
theorem Er.at {f : Ws σ → T × Ws σ} (hf : Er f) {s : Ws σ} {e : Int} (h : s.err = e) (he : e ≠ 0) : (f s).2.err = e := by rw [hf s (by rw [h]; exact he), h]
theorem go_err : ∀ f lv, Er (go M f lv)
  | 0, _ => fun s h => by unfold go; rfl
  | f + 1, .asg => fun s h => by
    have ih := go_err f
    unfold go
    split
    · dsimp only
      by_cases hz : ((peekM (nextM s)).text.extract 0 ((peekM (nextM s)).text.size - 1)).size = 0
      · simp only [hz, if_true]
        rw [setM_err]
        exact (deepM_err (ih _)).at rfl h
      · simp only [hz, if_false]
        rw [setM_err]
        exact (betwM_err M _ _ _).at ((deepM_err (ih _)).at ((valueM_err M _).at rfl h) h) h
    · exact ih _ s h
  | f + 1, .cho => fun s h => by
    have ih := go_err f
    unfold go
    have h1 := ih (.bin 3) s h
    dsimp only
    split
    · have h2 := (deepM_err (asideM_err (b := M.truth (go M f (.bin 3) s).1) (ih .asg))).at (s := nextM (go M f (.bin 3) s).2) h1 h
      refine (deepM_err (asideM_err (ih .cho))).at ?_ h
      rw [needM_err (by rw [h2]; exact h), h2]
    · exact h1
  | f + 1, .bin r => fun s h => by
    unfold go
    exact (go_err f _).at ((go_err f _) s h) h
  | f + 1, .lop r x => fun s h => by
    have ih := go_err f
    unfold go
    split
    · dsimp only
      split
      · exact (ih _).at ((asideM_err (ih _)).at (s := nextM s) rfl h) h
      · split
        · exact (ih _).at ((asideM_err (ih _)).at (s := nextM s) rfl h) h
        · exact (ih _).at ((betwM_err M _ _ _).at ((ih _).at (s := nextM s) rfl h) h) h
    · rfl
  | f + 1, .opd => fun s h => by
    have ih := go_err f
    unfold go
    dsimp only
    split
    · rfl
    · split
      · exact (valueM_err M _).at (s := nextM s) rfl h
      · split
        · have h2 := (deepM_err (ih .asg)).at (s := nextM s) rfl h
          dsimp only
          rw [needM_err (by rw [h2]; exact h), h2]
          rfl
        · split
          · exact (deepM_err (ih .opd)).at (s := nextM s) rfl h
          · show (failM 60 (nextM s)).err = _
            rw [failM_err (s := nextM s) h]
            rfl

/-! ### Enough fuel is enough -/
theorem deepM_same {f g : Ws σ → T × Ws σ} {s : Ws σ} (h : ∀ s', s'.toks.length ≤ s.toks.length → f s' = g s') : deepM f s = deepM g s := by
  unfold deepM
  dsimp only
  rw [h]
  split
  · exact failM_toks _ _
  · exact Nat.le_refl _
theorem asideM_same {b : Bool} {f g : Ws σ → T × Ws σ} {s : Ws σ} (h : ∀ s', s'.toks.length ≤ s.toks.length → f s' = g s') : asideM b f s = asideM b g s := by
  unfold asideM
  rw [h s (Nat.le_refl _), h { s with idle := s.idle + 1 } (Nat.le_refl _)]
theorem peek_len {s : Ws σ} (h : (peekM s).kind ≠ 0) : 1 ≤ s.toks.length := by
  unfold peekM at h
  cases hs : s.toks with
  | nil => rw [hs] at h; exact absurd rfl h
  | cons a l => simp
theorem go_more : ∀ f lv (s : Ws σ), cost s.toks.length lv ≤ f → go M (f + 1) lv s = go M f lv s
  | 0, lv, s, h => by cases lv <;> (simp only [cost] at h; omega)
  | f + 1, .opd, s, h => by
    have ih : ∀ lv (s' : Ws σ), s'.toks.length ≤ (nextM s).toks.length → 1 ≤ s.toks.length → lv = .asg ∨ lv = .opd → go M (f + 1) lv s' = go M f lv s' := fun lv s' h1 h2 h3 => go_more f lv s' (by
      rw [nextM_toks] at h1
      rcases h3 with rfl | rfl <;> (simp only [cost] at h ⊢; omega))
    conv => lhs; unfold go
    conv => rhs; unfold go
    dsimp only
    by_cases h1 : 1 ≤ s.toks.length
    · rw [deepM_same (fun s' hs => ih .asg s' hs h1 (.inl rfl)), deepM_same (fun s' hs => ih .opd s' hs h1 (.inr rfl))]
    · have e : s.toks = [] := List.eq_nil_of_length_eq_zero (by omega)
      have ep : peekM s = tk0 := by unfold peekM; rw [e]; rfl
      rw [ep, if_neg (show ¬ tk0.kind = 1 by decide), if_neg (show ¬ tk0.kind = 1 by decide), if_neg (show ¬ tk0.kind = 2 by decide), if_neg (show ¬ tk0.kind = 2 by decide), tk0_l, if_neg (show ¬ ([] : List UInt8) = [40] by decide), if_neg (show ¬ ([] : List UInt8) = [40] by decide),
        if_neg (show ¬ (([] : List UInt8) = [43] ∨ ([] : List UInt8) = [45] ∨ ([] : List UInt8) = [33] ∨ ([] : List UInt8) = [126]) by decide), if_neg (show ¬ (([] : List UInt8) = [43] ∨ ([] : List UInt8) = [45] ∨ ([] : List UInt8) = [33] ∨ ([] : List UInt8) = [126]) by decide)]
  | f + 1, .bin r, s, h => by
    have h1 := go_more f .opd s (by simp only [cost] at h ⊢; omega)
    have h2 := go_more f (.lop r (go M f .opd s).1) (go M f .opd s).2 (by
      have := go_toks M f .opd s
      simp only [cost] at h ⊢; omega)
    conv => lhs; unfold go
    conv => rhs; unfold go
    dsimp only
    rw [h1]
    exact h2
  | f + 1, .lop r x, s, h => by
    by_cases hc : (peekM s).kind = 3 ∧ r ≤ rankL (peekM s).text.toList
    · have h1 := peek_len (s := s) (by rw [hc.1]; decide)
      have ih : ∀ r' (s' : Ws σ), s'.toks.length ≤ (nextM s).toks.length → go M (f + 1) (.bin r') s' = go M f (.bin r') s' := fun r' s' h2 => go_more f _ s' (by
        rw [nextM_toks] at h2; simp only [cost] at h ⊢; omega)
      have il : ∀ x' (s' : Ws σ), s'.toks.length ≤ (nextM s).toks.length → go M (f + 1) (.lop r x') s' = go M f (.lop r x') s' := fun x' s' h2 => go_more f _ s' (by
        rw [nextM_toks] at h2; simp only [cost] at h ⊢; omega)
      conv => lhs; unfold go
      conv => rhs; unfold go
      rw [if_pos hc, if_pos hc]
      dsimp only
      rw [asideM_same (b := M.truth x) (s := nextM s) (fun s' hs => ih (rankL (peekM s).text.toList + 1) s' hs), asideM_same (b := !M.truth x) (s := nextM s) (fun s' hs => ih (rankL (peekM s).text.toList + 1) s' hs), ih _ (nextM s) (Nat.le_refl _)]
      split
      · exact il _ _ (asideM_toks (go_toks M f _) _)
      · split
        · exact il _ _ (asideM_toks (go_toks M f _) _)
        · exact il _ _ (Nat.le_trans (betwM_toks M _ _ _ _) (go_toks M f _ _))
    · conv => lhs; unfold go
      conv => rhs; unfold go
      rw [if_neg hc, if_neg hc]
  | f + 1, .cho, s, h => by
    have h1 := go_more f (.bin 3) s (by simp only [cost] at h ⊢; omega)
    conv => lhs; unfold go
    conv => rhs; unfold go
    dsimp only
    rw [h1]
    obtain ⟨r, hr⟩ : ∃ r, go M f (.bin 3) s = r := ⟨_, rfl⟩
    have hl : r.2.toks.length ≤ s.toks.length := by rw [← hr]; exact go_toks M f _ _
    rw [hr]
    by_cases hI : isM [63] r.2 = true
    · have h2 : 1 ≤ r.2.toks.length := peek_len (by
        unfold isM at hI
        have := of_decide_eq_true (Bool.and_eq_true_iff.1 hI).1
        rw [this]; decide)
      have ih : ∀ lv (s' : Ws σ), s'.toks.length ≤ (nextM r.2).toks.length → lv = .asg ∨ lv = .cho → go M (f + 1) lv s' = go M f lv s' := fun lv s' h3 h4 => go_more f lv s' (by
        rw [nextM_toks] at h3
        rcases h4 with rfl | rfl <;> (simp only [cost] at h ⊢; omega))
      rw [if_pos hI, if_pos hI]
      rw [deepM_same (s := nextM r.2) (fun s' hs => asideM_same (fun s'' hs' => ih .asg s'' (Nat.le_trans hs' hs) (.inl rfl)))]
      rw [deepM_same (s := needM [58] _) (fun s' hs => asideM_same (fun s'' hs' => ih .cho s'' (Nat.le_trans hs' (Nat.le_trans hs (Nat.le_trans (needM_toks _ _) (deepM_toks (asideM_toks (go_toks M f _)) _)))) (.inr rfl)))]
    · rw [if_neg hI, if_neg hI]
  | f + 1, .asg, s, h => by
    by_cases ha : asgs s = true
    · have h2 := asgs_len ha
      have ih : ∀ (s' : Ws σ), s'.toks.length ≤ (nextM (nextM s)).toks.length → go M (f + 1) .asg s' = go M f .asg s' := fun s' h3 => go_more f _ s' (by
        rw [nextM_toks, nextM_toks] at h3; simp only [cost] at h ⊢; omega)
      conv => lhs; unfold go
      conv => rhs; unfold go
      rw [if_pos ha, if_pos ha]
      dsimp only
      by_cases hz : ((peekM (nextM s)).text.extract 0 ((peekM (nextM s)).text.size - 1)).size = 0
      · simp only [hz, if_true]
        rw [deepM_same (s := nextM (nextM s)) (fun s' hs => ih s' hs)]
      · simp only [hz, if_false]
        rw [deepM_same (s := (valueM M (peekM s).text (nextM (nextM s))).2) (fun s' hs => ih s' (Nat.le_trans hs (valueM_toks M _ _)))]
    · conv => lhs; unfold go
      conv => rhs; unfold go
      rw [if_neg ha, if_neg ha]
      exact go_more f _ s (by simp only [cost] at h ⊢; omega)
theorem go_at {f lv} {s : Ws σ} (h : cost s.toks.length lv ≤ f) (k : Nat) : go M (f + k) lv s = go M f lv s := by
  induction k with
  | zero => rfl
  | succ k ih => rw [← ih, show f + (k + 1) = f + k + 1 from rfl]; exact go_more M _ _ _ (by omega)

theorem fail_no {s : Ws σ} (h : s.err = 0) {e : Int} (he : e ≠ 0) : (failM e s).err ≠ 0 := by unfold failM; rw [if_pos ⟨h, he⟩]; exact he
/-! ### Within parentheses -/
/-- Of the second state: one deeper, and what is behind stands where the first ends. -/
structure Pr (d : Int) (x : Tk) (Y : List Tk) (s s' : Ws σ) : Prop where
  err : s.err = 0
  toks : ∃ p, (∀ t ∈ p, t.kind ≠ 0 ∧ t.kind ≠ 4) ∧ s.toks = p ++ [x] ∧ s'.toks = p ++ rpT :: Y
  deep : s'.deep = s.deep + d
  idle : s'.idle = s.idle
  err2 : s'.err = 0
  ms : s'.ms = s.ms
/-- What the first reading does without an error, the second does too, or it is too deep. -/
def Si (d : Int) (x : Tk) (Y : List Tk) (r r' : T × Ws σ) : Prop := r.2.err = 0 → (0 < d ∧ r'.2.err = 52) ∨ (r'.1 = r.1 ∧ Pr d x Y r.2 r'.2)
variable {d : Int} {x : Tk} {Y : List Tk} (hk : x.kind = 0 ∨ x.kind = 4) (hx : x.text = noT)
include hk hx
omit M in
theorem pr_next {s s' : Ws σ} (h : Pr d x Y s s') (hp : (peekM s).kind ≠ 0 ∧ (peekM s).kind ≠ 4) : Pr d x Y (nextM s) (nextM s') ∧ peekM s' = peekM s := by
  obtain ⟨p, h1, h2, h3⟩ := h.toks
  cases p with
  | nil =>
    have e : peekM s = x := by unfold peekM; rw [h2]; rfl
    rw [e] at hp
    rcases hk with h | h
    · exact absurd h hp.1
    · exact absurd h hp.2
  | cons a p =>
    refine ⟨⟨h.err, ⟨p, fun t ht => h1 t (List.mem_cons_of_mem _ ht), ?_, ?_⟩, h.deep, h.idle, h.err2, h.ms⟩, ?_⟩
    · show s.toks.tail = _; rw [h2]; rfl
    · show s'.toks.tail = _; rw [h3]; rfl
    · unfold peekM; rw [h2, h3]; rfl
omit M in
theorem pr_peek {s s' : Ws σ} (h : Pr d x Y s s') : (peekM s' = peekM s ∧ (peekM s).kind ≠ 0 ∧ (peekM s).kind ≠ 4) ∨ (peekM s = x ∧ peekM s' = rpT) := by
  obtain ⟨p, h1, h2, h3⟩ := h.toks
  cases p with
  | nil => exact .inr ⟨by unfold peekM; rw [h2]; rfl, by unfold peekM; rw [h3]; rfl⟩
  | cons a p => exact .inl ⟨by unfold peekM; rw [h2, h3]; rfl, by
    have e : peekM s = a := by unfold peekM; rw [h2]; rfl
    rw [e]; exact h1 a (List.mem_cons_self ..)⟩
omit M in
theorem kx3 : x.kind ≠ 3 ∧ x.kind ≠ 1 ∧ x.kind ≠ 2 := by rcases hk with h | h <;> (rw [h]; decide)
omit M in
theorem pr_is {s s' : Ws σ} (h : Pr d x Y s s') {op : List UInt8} (ho : op ≠ [41]) : isM op s' = isM op s := by
  rcases pr_peek hk hx h with ⟨e, _⟩ | ⟨e, e'⟩
  · unfold isM; rw [e]
  · unfold isM
    rw [e, e', decide_eq_false (kx3 hk hx).1, Bool.false_and]
    have : ((rpT.text.toList == op) = false) := by
      rw [rp_l, beq_eq_false_iff_ne]; exact fun k => ho k.symm
    rw [this, Bool.and_false]
omit M in
theorem is_kind {s : Ws σ} {op : List UInt8} (h : isM op s = true) : (peekM s).kind = 3 := of_decide_eq_true (Bool.and_eq_true_iff.1 (by unfold isM at h; exact h)).1
omit M in
theorem pr_need {s s' : Ws σ} (h : Pr d x Y s s') {op : List UInt8} (he : (needM op s).err = 0) : Pr d x Y (needM op s) (needM op s') := by
  have hI : isM op s = true := by
    cases hI : isM op s with
    | true => rfl
    | false =>
      unfold needM at he
      rw [hI, if_neg (by decide)] at he
      exact absurd he (fail_no (s := s) h.err (e := 60) (by decide))
  have hk3 := is_kind hk hx hI
  obtain ⟨h1, h2⟩ := pr_next hk hx h (by rw [hk3]; decide)
  have hI' : isM op s' = true := by unfold isM at hI ⊢; rw [h2]; exact hI
  unfold needM
  rw [hI, hI', if_pos rfl, if_pos rfl]
  exact h1
theorem pr_value {s s' : Ws σ} (h : Pr d x Y s s') (nm : ByteArray) : Si d x Y (valueM M nm s) (valueM M nm s') := fun he => by
  have hw : worksM s' = worksM s := by unfold worksM; rw [h.idle, h.err, h.err2]
  unfold valueM at he ⊢
  rw [hw, h.ms]
  by_cases hb : worksM s = true
  · rw [if_pos hb] at he ⊢
    rw [if_pos hb]
    have hz : (M.value s.ms nm).2 = 0 := Decidable.byContradiction fun hz => by
      have he : (failM (M.value s.ms nm).2 s).err = 0 := he
      unfold failM at he
      rw [if_pos ⟨h.err, hz⟩] at he
      exact hz he
    rw [hz]
    have e1 : ∀ s : Ws σ, failM 0 s = s := fun s => by unfold failM; rw [if_neg (fun k => k.2 rfl)]
    rw [e1, e1]
    exact .inr ⟨rfl, h⟩
  · rw [if_neg hb, if_neg hb]
    exact .inr ⟨rfl, h⟩
theorem pr_betw {s s' : Ws σ} (h : Pr d x Y s s') (op : ByteArray) (a b : T) : Si d x Y (betwM M op a b s) (betwM M op a b s') := fun he => by
  have hw : worksM s' = worksM s := by unfold worksM; rw [h.idle, h.err, h.err2]
  unfold betwM at he ⊢
  rw [hw]
  by_cases hb : worksM s = true
  · rw [if_pos hb] at he ⊢
    rw [if_pos hb]
    have hz : (M.between op a b).2 = 0 := Decidable.byContradiction fun hz => by
      have he : (failM (M.between op a b).2 s).err = 0 := he
      unfold failM at he
      rw [if_pos ⟨h.err, hz⟩] at he
      exact hz he
    rw [hz]
    have e1 : ∀ s : Ws σ, failM 0 s = s := fun s => by unfold failM; rw [if_neg (fun k => k.2 rfl)]
    rw [e1, e1]
    exact .inr ⟨rfl, h⟩
  · rw [if_neg hb, if_neg hb]
    exact .inr ⟨rfl, h⟩
theorem pr_set {s s' : Ws σ} (h : Pr d x Y s s') (nm : ByteArray) (a : T) : Pr d x Y (setM M nm a s) (setM M nm a s') := by
  have hw : worksM s' = worksM s := by unfold worksM; rw [h.idle, h.err, h.err2]
  unfold setM
  rw [hw]
  split
  · exact ⟨h.err, h.toks, h.deep, h.idle, h.err2, by show M.assign _ _ _ = M.assign _ _ _; rw [h.ms]⟩
  · exact h
def Sf (d : Int) (x : Tk) (Y : List Tk) (f : Ws σ → T × Ws σ) : Prop := ∀ s s', Pr d x Y s s' → Si d x Y (f s) (f s')
omit M in
theorem deep_sf {f : Ws σ → T × Ws σ} (hf : Sf d x Y f) (hE : Er f) : Sf d x Y (deepM f) := fun s s' h he => by
  unfold deepM at he ⊢
  dsimp only at he ⊢
  by_cases h1 : 24 < s.deep + 1
  · rw [if_pos h1] at he
    have e1 : (failM 52 { s with deep := s.deep + 1 }).err = 52 := by unfold failM; rw [if_pos ⟨h.err, by decide⟩]
    rw [hE.at e1 (by decide)] at he
    exact absurd he (by decide)
  · rw [if_neg h1] at he ⊢
    by_cases h2 : 24 < s'.deep + 1
    · rw [if_pos h2]
      have e1 : (failM 52 { s' with deep := s'.deep + 1 }).err = 52 := by unfold failM; rw [if_pos ⟨h.err2, by decide⟩]
      exact .inl ⟨by have := h.deep; omega, hE.at e1 (by decide)⟩
    · rw [if_neg h2]
      have hp : Pr d x Y { s with deep := s.deep + 1 } { s' with deep := s'.deep + 1 } := ⟨h.err, h.toks, by show s'.deep + 1 = s.deep + 1 + d; rw [h.deep]; omega, h.idle, h.err2, h.ms⟩
      rcases hf _ _ hp he with h3 | ⟨h3, h4⟩
      · exact .inl h3
      · exact .inr ⟨h3, ⟨h4.err, h4.toks, by show _ - 1 = _ - 1 + d; rw [h4.deep]; omega, h4.idle, h4.err2, h4.ms⟩⟩
omit M in
theorem aside_sf {b : Bool} {f : Ws σ → T × Ws σ} (hf : Sf d x Y f) : Sf d x Y (asideM b f) := fun s s' h he => by
  cases b with
  | true => exact hf s s' h he
  | false =>
    unfold asideM at he ⊢
    simp only [Bool.false_eq_true, if_false] at he ⊢
    have hp : Pr d x Y { s with idle := s.idle + 1 } { s' with idle := s'.idle + 1 } := ⟨h.err, h.toks, h.deep, by show s'.idle + 1 = s.idle + 1; rw [h.idle], h.err2, h.ms⟩
    rcases hf _ _ hp he with h3 | ⟨h3, h4⟩
    · exact .inl h3
    · exact .inr ⟨h3, ⟨h4.err, h4.toks, h4.deep, by show _ - 1 = _ - 1; rw [h4.idle], h4.err2, h4.ms⟩⟩
omit M hk hx in
theorem zero_of {f : Ws σ → T × Ws σ} (hE : Er f) {s : Ws σ} (h : (f s).2.err = 0) : s.err = 0 := Decidable.byContradiction fun k => k ((hE s k).symm.trans h)
omit hk hx in
/-- One step behind another. -/
theorem si_step {A : Ws σ → T × Ws σ} {F : T → Ws σ → T × Ws σ} (hF : ∀ a, Er (F a)) {s s' : Ws σ} (h1 : Si d x Y (A s) (A s')) (h2 : ∀ t t', Pr d x Y t t' → ∀ a, Si d x Y (F a t) (F a t')) :
    Si d x Y (F (A s).1 (A s).2) (F (A s').1 (A s').2) := fun he => by
  rcases h1 (zero_of (hF _) he) with h3 | ⟨h3, h4⟩
  · exact .inl ⟨h3.1, (hF _).at h3.2 (by decide)⟩
  · rw [h3]
    exact h2 _ _ h4 _ he
def lvOk : Lv T → Prop
  | .bin r => 1 ≤ r
  | .lop r _ => 1 ≤ r
  | _ => True
omit M in
theorem pr_asgs {s s' : Ws σ} (h : Pr d x Y s s') : asgs s' = asgs s := by
  obtain ⟨p, h1, h2, h3⟩ := h.toks
  unfold asgs
  cases p with
  | nil =>
    rw [h2, h3]
    cases Y with
    | nil => rfl
    | cons y Y => rfl
  | cons a p =>
    cases p with
    | nil =>
      rw [h2, h3]
      show (decide (a.kind = 2) && asgL rpT.text.toList) = (decide (a.kind = 2) && asgL x.text.toList)
      rw [hx, rp_l, no_l]
      rfl
    | cons b p => rw [h2, h3]; rfl
omit M in
theorem asgs_two {s s' : Ws σ} (h : Pr d x Y s s') (ha : asgs s = true) : peekM s' = peekM s ∧ peekM (nextM s') = peekM (nextM s) ∧ Pr d x Y (nextM (nextM s)) (nextM (nextM s')) := by
  obtain ⟨p, h1, h2, h3⟩ := h.toks
  unfold asgs at ha
  cases p with
  | nil => rw [h2] at ha; exact absurd ha (by simp)
  | cons a p =>
    cases p with
    | nil =>
      rw [h2] at ha
      have : (decide (a.kind = 2) && asgL x.text.toList) = true := ha
      rw [hx, no_l] at this
      have := (Bool.and_eq_true_iff.1 this).2
      exact absurd this (by decide)
    | cons b p =>
      refine ⟨by unfold peekM; rw [h2, h3]; rfl, ?_, ⟨h.err, ⟨p, fun t ht => h1 t (List.mem_cons_of_mem _ (List.mem_cons_of_mem _ ht)), ?_, ?_⟩, h.deep, h.idle, h.err2, h.ms⟩⟩
      · show s'.toks.tail.headD tk0 = s.toks.tail.headD tk0; rw [h2, h3]; rfl
      · show s.toks.tail.tail = _; rw [h2]; rfl
      · show s'.toks.tail.tail = _; rw [h3]; rfl
theorem go_par : ∀ f lv, lvOk lv → Sf d x Y (go M f lv)
  | 0, lv, _ => fun s s' h => by unfold go; exact fun _ => .inr ⟨rfl, h⟩
  | f + 1, .opd, _ => fun s s' h => by
    have ia := deep_sf hk hx (go_par f .asg trivial) (go_err M f .asg)
    have io := deep_sf hk hx (go_par f .opd trivial) (go_err M f .opd)
    unfold go
    dsimp only
    rcases pr_peek hk hx h with ⟨e, k0, k4⟩ | ⟨e, e'⟩
    · have hn := (pr_next hk hx h ⟨k0, k4⟩).1
      rw [e]
      by_cases k1 : (peekM s).kind = 1
      · rw [if_pos k1, if_pos k1]
        exact fun _ => .inr ⟨rfl, hn⟩
      rw [if_neg k1, if_neg k1]
      by_cases k2 : (peekM s).kind = 2
      · rw [if_pos k2, if_pos k2]
        exact pr_value M hk hx hn _
      rw [if_neg k2, if_neg k2]
      by_cases k3 : (peekM s).text.toList = [40]
      · rw [if_pos k3, if_pos k3]
        exact si_step (A := deepM (go M f .asg)) (F := fun a t => (a, needM [41] t)) (fun a t ht => needM_err ht) (ia _ _ hn) (fun t t' hp a he => .inr ⟨rfl, pr_need hk hx hp he⟩)
      rw [if_neg k3, if_neg k3]
      by_cases k5 : (peekM s).text.toList = [43] ∨ (peekM s).text.toList = [45] ∨ (peekM s).text.toList = [33] ∨ (peekM s).text.toList = [126]
      · rw [if_pos k5, if_pos k5]
        exact si_step (A := deepM (go M f .opd)) (F := fun a t => (M.ahead (peekM s).text a, t)) (fun a t ht => rfl) (io _ _ hn) (fun t t' hp a he => .inr ⟨rfl, hp⟩)
      rw [if_neg k5, if_neg k5]
      exact fun he => absurd he (fail_no hn.err (by decide))
    · rw [e, if_neg (kx3 hk hx).2.1, if_neg (kx3 hk hx).2.2, hx, no_l, if_neg (by decide), if_neg (by decide)]
      exact fun he => absurd he (fail_no (s := nextM s) h.err (by decide))
  | f + 1, .bin r, hr => fun s s' h => by
    unfold go
    dsimp only
    exact si_step (A := go M f .opd) (F := fun a t => go M f (.lop r a) t) (fun a => go_err M f _) (go_par f .opd trivial _ _ h) (fun t t' hp a => go_par f (.lop r a) hr _ _ hp)
  | f + 1, .lop r a, hr => fun s s' h => by
    unfold go
    dsimp only
    rcases pr_peek hk hx h with ⟨e, k0, k4⟩ | ⟨e, e'⟩
    · have hn := (pr_next hk hx h ⟨k0, k4⟩).1
      have ib := go_par f (.bin (rankL (peekM s).text.toList + 1)) (Nat.le_add_left 1 _)
      have ie := go_err M f (.bin (rankL (peekM s).text.toList + 1))
      have il := fun v => go_par f (.lop r v) hr
      rw [e]
      by_cases hc : (peekM s).kind = 3 ∧ r ≤ rankL (peekM s).text.toList
      · rw [if_pos hc, if_pos hc]
        by_cases k1 : (peekM s).text.toList = [38, 38]
        · rw [if_pos k1, if_pos k1]
          exact si_step (A := asideM (M.truth a) (go M f (.bin (rankL (peekM s).text.toList + 1)))) (F := fun b t => go M f (.lop r (logicM M (M.truth a && M.truth b))) t) (fun b => go_err M f _) (aside_sf hk hx ib _ _ hn) (fun t t' hp b => il _ _ _ hp)
        rw [if_neg k1, if_neg k1]
        by_cases k2 : (peekM s).text.toList = [124, 124]
        · rw [if_pos k2, if_pos k2]
          exact si_step (A := asideM (!M.truth a) (go M f (.bin (rankL (peekM s).text.toList + 1)))) (F := fun b t => go M f (.lop r (logicM M (M.truth a || M.truth b))) t) (fun b => go_err M f _) (aside_sf hk hx ib _ _ hn) (fun t t' hp b => il _ _ _ hp)
        rw [if_neg k2, if_neg k2]
        exact si_step (A := go M f (.bin (rankL (peekM s).text.toList + 1))) (F := fun b t => go M f (.lop r (betwM M (peekM s).text a b t).1) (betwM M (peekM s).text a b t).2) (fun b t ht => (go_err M f _).at (betwM_err M _ _ _ t ht) ht) (ib _ _ hn)
          (fun t t' hp b => si_step (A := betwM M (peekM s).text a b) (F := fun z t => go M f (.lop r z) t) (fun b => go_err M f _) (pr_betw M hk hx hp _ _ _) (fun u u' hu z => il _ _ _ hu))
      · rw [if_neg hc, if_neg hc]
        exact fun _ => .inr ⟨rfl, h⟩
    · have hr : 1 ≤ r := hr
      have hq : ¬ (rpT.kind = 3 ∧ r ≤ rankL rpT.text.toList) := fun k => by
        have h2 : rankL rpT.text.toList = 0 := by rw [rp_l]; decide
        have := k.2
        omega
      rw [e, e', if_neg (fun k => (kx3 hk hx).1 k.1), if_neg hq]
      exact fun _ => .inr ⟨rfl, h⟩
  | f + 1, .cho, _ => fun s s' h => by
    have ia := fun b => deep_sf hk hx (aside_sf (b := b) hk hx (go_par f .asg trivial)) (asideM_err (go_err M f .asg))
    have ic := fun b => deep_sf hk hx (aside_sf (b := b) hk hx (go_par f .cho trivial)) (asideM_err (go_err M f .cho))
    have ea := fun b => deepM_err (asideM_err (b := b) (go_err M f .asg))
    have ec := fun b => deepM_err (asideM_err (b := b) (go_err M f .cho))
    unfold go
    dsimp only
    have hF : ∀ a, Er (fun t : Ws σ => if isM [63] t = true then (if M.truth a = true then (deepM (asideM (M.truth a) (go M f .asg)) (nextM t)).1 else (deepM (asideM (!M.truth a) (go M f .cho)) (needM [58] (deepM (asideM (M.truth a) (go M f .asg)) (nextM t)).2)).1, (deepM (asideM (!M.truth a) (go M f .cho)) (needM [58] (deepM (asideM (M.truth a) (go M f .asg)) (nextM t)).2)).2) else (a, t)) := fun a t ht => by
      dsimp only
      split
      · have h2 := (ea (M.truth a)).at (s := nextM t) rfl ht
        refine (ec (!M.truth a)).at ?_ ht
        rw [needM_err (by rw [h2]; exact ht), h2]
        rfl
      · rfl
    refine si_step (A := go M f (.bin 3)) (F := fun a t => if isM [63] t = true then (if M.truth a = true then (deepM (asideM (M.truth a) (go M f .asg)) (nextM t)).1 else (deepM (asideM (!M.truth a) (go M f .cho)) (needM [58] (deepM (asideM (M.truth a) (go M f .asg)) (nextM t)).2)).1, (deepM (asideM (!M.truth a) (go M f .cho)) (needM [58] (deepM (asideM (M.truth a) (go M f .asg)) (nextM t)).2)).2) else (a, t)) hF (go_par f (.bin 3) (show 1 ≤ 3 by decide) _ _ h) (fun t t' hp a => ?_)
    rw [pr_is hk hx hp (by decide)]
    by_cases hI : isM [63] t = true
    · rw [if_pos hI, if_pos hI]
      have hn := (pr_next hk hx hp (by rw [is_kind hk hx hI]; decide)).1
      refine si_step (A := deepM (asideM (M.truth a) (go M f .asg))) (F := fun y u => (if M.truth a = true then y else (deepM (asideM (!M.truth a) (go M f .cho)) (needM [58] u)).1, (deepM (asideM (!M.truth a) (go M f .cho)) (needM [58] u)).2)) (fun y u hu => (ec (!M.truth a)).at (needM_err hu) hu) (ia _ _ _ hn) (fun u u' hu y => ?_)
      refine si_step (A := fun u => (y, needM [58] u)) (F := fun y v => (if M.truth a = true then y else (deepM (asideM (!M.truth a) (go M f .cho)) v).1, (deepM (asideM (!M.truth a) (go M f .cho)) v).2)) (fun y v hv => ec (!M.truth a) v hv) (fun he => .inr ⟨rfl, pr_need hk hx hu he⟩) (fun v v' hv y => ?_)
      exact si_step (A := deepM (asideM (!M.truth a) (go M f .cho))) (F := fun n v => (if M.truth a = true then y else n, v)) (fun n v hv => rfl) (ic _ _ _ hv) (fun v v' hv n he => .inr ⟨rfl, hv⟩)
    · rw [if_neg hI, if_neg hI]
      exact fun _ => .inr ⟨rfl, hp⟩
  | f + 1, .asg, _ => fun s s' h => by
    have ia := deep_sf hk hx (go_par f .asg trivial) (go_err M f .asg)
    have ea := deepM_err (go_err M f .asg)
    unfold go
    rw [pr_asgs hk hx h]
    by_cases ha : asgs s = true
    · obtain ⟨e1, e2, hn⟩ := asgs_two hk hx h ha
      rw [if_pos ha, if_pos ha]
      dsimp only
      rw [e1, e2]
      by_cases hz : ((peekM (nextM s)).text.extract 0 ((peekM (nextM s)).text.size - 1)).size = 0
      · simp only [hz, if_true]
        exact si_step (A := deepM (go M f .asg)) (F := fun v t => (v, setM M (peekM s).text v t)) (fun v t ht => setM_err M _ _ _) (ia _ _ hn) (fun t t' hp v he => .inr ⟨rfl, pr_set M hk hx hp _ _⟩)
      · simp only [hz, if_false]
        refine si_step (A := valueM M (peekM s).text) (F := fun v t => ((betwM M ((peekM (nextM s)).text.extract 0 ((peekM (nextM s)).text.size - 1)) v (deepM (go M f .asg) t).1 (deepM (go M f .asg) t).2).1, setM M (peekM s).text (betwM M ((peekM (nextM s)).text.extract 0 ((peekM (nextM s)).text.size - 1)) v (deepM (go M f .asg) t).1 (deepM (go M f .asg) t).2).1 (betwM M ((peekM (nextM s)).text.extract 0 ((peekM (nextM s)).text.size - 1)) v (deepM (go M f .asg) t).1 (deepM (go M f .asg) t).2).2)) (fun v t ht => (setM_err M _ _ _).trans ((betwM_err M _ _ _).at (ea t ht) ht)) (pr_value M hk hx hn _) (fun t t' hp v => ?_)
        refine si_step (A := deepM (go M f .asg)) (F := fun r t => ((betwM M ((peekM (nextM s)).text.extract 0 ((peekM (nextM s)).text.size - 1)) v r t).1, setM M (peekM s).text (betwM M ((peekM (nextM s)).text.extract 0 ((peekM (nextM s)).text.size - 1)) v r t).1 (betwM M ((peekM (nextM s)).text.extract 0 ((peekM (nextM s)).text.size - 1)) v r t).2)) (fun r t ht => (setM_err M _ _ _).trans (betwM_err M _ _ _ t ht)) (ia _ _ hp) (fun u u' hu r => ?_)
        exact si_step (A := betwM M ((peekM (nextM s)).text.extract 0 ((peekM (nextM s)).text.size - 1)) v r) (F := fun b t => (b, setM M (peekM s).text b t)) (fun b t ht => setM_err M _ _ _) (pr_betw M hk hx hu _ _ _) (fun t t' hp b he => .inr ⟨rfl, pr_set M hk hx hp _ _⟩)
    · rw [if_neg ha, if_neg ha]
      exact go_par f .cho trivial _ _ h
end
end Go.Proofs.YtjbmpockoicgmaaGreat
