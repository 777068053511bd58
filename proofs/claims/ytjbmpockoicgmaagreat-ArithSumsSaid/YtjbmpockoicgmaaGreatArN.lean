/- What a reading keeps of the worker's state. No condition. -/
import Derived.Test.YtjbmpockoicgmaaGreatArM
namespace Go.Proofs.YtjbmpockoicgmaaGreat
open Go.RowKit Go.PlainAid
set_option linter.unusedVariables false
/-! ### What a reading keeps -/
structure Le {σ : Type} (c : σ → Nat) (s s' : Ws σ) : Prop where
  deep : s'.deep = s.deep
  idle : s'.idle = s.idle
  toks : s'.toks.length ≤ s.toks.length
  sets : c s'.ms + s'.toks.length ≤ c s.ms + s.toks.length
  err : (s.err ≠ 0 → s.toks = []) → (s'.err ≠ 0 → s'.toks = [])
theorem Le.refl {σ : Type} (c : σ → Nat) (s : Ws σ) : Le c s s := ⟨rfl, rfl, Nat.le_refl _, Nat.le_refl _, fun h => h⟩
theorem Le.trans {σ : Type} {c : σ → Nat} {a b d : Ws σ} (h : Le c a b) (k : Le c b d) : Le c a d :=
  ⟨k.deep.trans h.deep, k.idle.trans h.idle, Nat.le_trans k.toks h.toks, Nat.le_trans k.sets h.sets, fun e => k.err (h.err e)⟩
theorem failM_le {σ : Type} (c : σ → Nat) (e : Int) (s : Ws σ) : Le c s (failM e s) := by
  unfold failM
  split
  · exact ⟨rfl, rfl, Nat.zero_le _, Nat.add_le_add_left (Nat.zero_le _) _, fun _ _ => rfl⟩
  · exact Le.refl c s
theorem nextM_le {σ : Type} (c : σ → Nat) (s : Ws σ) : Le c s (nextM s) :=
  ⟨rfl, rfl, by rw [nextM_toks]; omega, by rw [nextM_toks]; show c s.ms + _ ≤ _; omega, fun h e => by show s.toks.tail = []; rw [h e]; rfl⟩
theorem needM_le {σ : Type} (c : σ → Nat) (op : List UInt8) (s : Ws σ) : Le c s (needM op s) := by
  unfold needM
  split
  · exact nextM_le c s
  · exact (failM_le c 60 s).trans (nextM_le c _)
theorem valueM_le {T σ : Type} (c : σ → Nat) (M : Mk T σ) (nm : ByteArray) (s : Ws σ) : Le c s (valueM M nm s).2 := by
  unfold valueM; split
  · exact failM_le c _ _
  · exact Le.refl c _
theorem betwM_le {T σ : Type} (c : σ → Nat) (M : Mk T σ) (op : ByteArray) (x y : T) (s : Ws σ) : Le c s (betwM M op x y s).2 := by
  unfold betwM; split
  · exact failM_le c _ _
  · exact Le.refl c _
theorem deepM_le {T σ : Type} {c : σ → Nat} {f : Ws σ → T × Ws σ} (hf : ∀ s, Le c s (f s).2) (s : Ws σ) : Le c s (deepM f s).2 := by
  unfold deepM
  dsimp only
  have h1 : Le c { s with deep := s.deep + 1 } (f (if 24 < s.deep + 1 then failM 52 { s with deep := s.deep + 1 } else { s with deep := s.deep + 1 })).2 := by
    split
    · exact (failM_le c 52 _).trans (hf _)
    · exact hf _
  exact ⟨by show (_ : Int) - 1 = _; rw [h1.deep]; show s.deep + 1 - 1 = s.deep; omega, h1.idle, h1.toks, h1.sets, h1.err⟩
theorem asideM_le {T σ : Type} {c : σ → Nat} {b : Bool} {f : Ws σ → T × Ws σ} (hf : ∀ s, Le c s (f s).2) (s : Ws σ) : Le c s (asideM b f s).2 := by
  unfold asideM; split
  · exact hf _
  · have h1 := hf { s with idle := s.idle + 1 }
    exact ⟨h1.deep, by show (_ : Int) - 1 = _; rw [h1.idle]; show s.idle + 1 - 1 = s.idle; omega, h1.toks, h1.sets, h1.err⟩
theorem asgs_len {σ : Type} {s : Ws σ} (h : asgs s = true) : 2 ≤ s.toks.length := by
  unfold asgs at h
  split at h
  · rename_i e; rw [e]; simp
  · cases h
theorem setM_le {T σ : Type} {c : σ → Nat} (M : Mk T σ) (hc : ∀ m nm x, c (M.assign m nm x) ≤ c m + 1) (nm : ByteArray) (x : T) {s0 s : Ws σ} (h : Le c (nextM (nextM s0)) s) (h2 : 2 ≤ s0.toks.length) : Le c s0 (setM M nm x s) := by
  have hs := h.sets
  have ht := h.toks
  have e : (nextM (nextM s0)).toks.length = s0.toks.length - 2 := by rw [nextM_toks, nextM_toks]; omega
  rw [e] at hs ht
  have hs : c s.ms + s.toks.length ≤ c s0.ms + (s0.toks.length - 2) := hs
  unfold setM
  split
  · have := hc s.ms nm x
    refine ⟨h.deep, h.idle, by show s.toks.length ≤ _; omega, ?_, fun he => ?_⟩
    · show c (M.assign s.ms nm x) + s.toks.length ≤ _
      omega
    · exact h.err (fun e => by show s0.toks.tail.tail = []; rw [he e]; rfl)
  · exact ⟨h.deep, h.idle, by omega, by omega, fun he => h.err (fun e => by show s0.toks.tail.tail = []; rw [he e]; rfl)⟩
theorem go_le {T σ : Type} (c : σ → Nat) (M : Mk T σ) (hc : ∀ m nm x, c (M.assign m nm x) ≤ c m + 1) : ∀ f lv s, Le c s (go M f lv s).2
  | 0, _, s => by unfold go; exact Le.refl c s
  | f + 1, .asg, s => by
    have ih := go_le c M hc f
    unfold go
    split
    · rename_i ha
      have h2 := asgs_len ha
      dsimp only
      by_cases hz : ((peekM (nextM s)).text.extract 0 ((peekM (nextM s)).text.size - 1)).size = 0
      · simp only [hz, if_true]
        exact setM_le M hc _ _ (deepM_le (ih _) _) h2
      · simp only [hz, if_false]
        exact setM_le M hc _ _ ((valueM_le c M _ _).trans ((deepM_le (ih _) _).trans (betwM_le c M _ _ _ _))) h2
    · exact ih _ _
  | f + 1, .cho, s => by
    have ih := go_le c M hc f
    unfold go
    dsimp only
    split
    · exact (ih (.bin 3) s).trans ((nextM_le c _).trans ((deepM_le (asideM_le (ih _)) _).trans ((needM_le c _ _).trans (deepM_le (asideM_le (ih _)) _))))
    · exact ih _ _
  | f + 1, .bin r, s => by
    unfold go
    exact (go_le c M hc f _ _).trans (go_le c M hc f _ _)
  | f + 1, .lop r x, s => by
    have ih := go_le c M hc f
    unfold go
    split
    · dsimp only
      split
      · exact (nextM_le c s).trans ((asideM_le (ih _) _).trans (ih _ _))
      · split
        · exact (nextM_le c s).trans ((asideM_le (ih _) _).trans (ih _ _))
        · exact (nextM_le c s).trans ((ih _ _).trans ((betwM_le c M _ _ _ _).trans (ih _ _)))
    · exact Le.refl c s
  | f + 1, .opd, s => by
    have ih := go_le c M hc f
    unfold go
    dsimp only
    split
    · exact nextM_le c s
    · split
      · exact (nextM_le c s).trans (valueM_le c M _ _)
      · split
        · exact (nextM_le c s).trans ((deepM_le (ih _) _).trans (needM_le c _ _))
        · split
          · exact (nextM_le c s).trans (deepM_le (ih _) _)
          · exact (nextM_le c s).trans (failM_le c _ _)
/-- A state that a reading may begin with. -/
structure Ok {σ : Type} (c : σ → Nat) (s : Ws σ) : Prop where
  d0 : 0 ≤ s.deep
  d1 : s.deep ≤ 25
  i0 : 0 ≤ s.idle
  i1 : s.idle + s.toks.length ≤ 150000
  sz : c s.ms + s.toks.length ≤ 150000
  er : s.err ≠ 0 → s.toks = []
theorem Ok.le {σ : Type} {c : σ → Nat} {s s' : Ws σ} (h : Ok c s) (k : Le c s s') : Ok c s' :=
  ⟨by rw [k.deep]; exact h.d0, by rw [k.deep]; exact h.d1,
   by rw [k.idle]; exact h.i0, by rw [k.idle]; have := h.i1; have := k.toks; omega, by have := h.sz; have := k.sets; omega, k.err h.er⟩
/-- At the greatest depth nothing is left. -/
def D2 {σ : Type} (s : Ws σ) : Prop := s.deep = 25 → s.toks = []
theorem D2.le {σ : Type} {c : σ → Nat} {s s' : Ws σ} (h : D2 s) (k : Le c s s') : D2 s' := fun e => List.eq_nil_of_length_eq_zero (by have := h (k.deep ▸ e); have h2 := k.toks; rw [this] at h2; simpa using h2)
end Go.Proofs.YtjbmpockoicgmaaGreat
