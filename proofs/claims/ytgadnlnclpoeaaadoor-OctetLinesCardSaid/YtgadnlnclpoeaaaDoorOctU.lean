/- What a loop over lines that collects them keeps. No condition. -/
import Derived.Test.YtgadnlnclpoeaaaDoorOctT
namespace Go.Proofs.YtgadnlnclpoeaaaDoor
open Go.RowKit Go.Shelf Go.PlainAid

theorem ownsRow_weak {w : World} {M n₀ : Nat} {e : TypeId} {size : Nat} {v : Value} {n : Nat} {xs : List Value} (h : w.ownsRow M e size v n xs) (hn : n₀ ≤ M) : w.ownsRow n₀ e size v n xs := by
  obtain ⟨h1, h2⟩ := h
  refine ⟨h1, ?_⟩
  rcases h2 with h2 | ⟨g, cap, cur, e1, e2, e3⟩
  · exact .inl h2
  · exact .inr ⟨g, cap, cur, e1, by omega, e3⟩

/-- Block B holds a slice of these lines, whose own block is at M or beyond, and isn't block Bn. -/
def Coll (M B Bn : Nat) (l : List Line) (W : World) : Prop :=
  ∃ v, Boxed W B 33 v ∧ W.ownsRow M 9 1 v l.length (svals l) ∧ ((v = .slice none 0 0 ↔ l = []) ∧ v.ownBlock ≠ some Bn)

theorem coll_own (M B Bn : Nat) (pre0 : List Line) : Own (fun (pre : List Line) W => Coll M B Bn (pre0 ++ pre) W) :=
  holdsRow_own M B 33 9 1 (fun pre => (pre0 ++ pre).length) (fun pre => svals (pre0 ++ pre)) (fun pre v => (v = .slice none 0 0 ↔ pre0 ++ pre = []) ∧ v.ownBlock ≠ some Bn)

theorem Coll.nil {M B Bn : Nat} {W : World} (h : Boxed W B 33 (.slice none 0 0)) : Coll M B Bn [] W :=
  ⟨_, h, World.ownsRow_nil _ _ _ _, by simp, by simp [Value.ownBlock]⟩

/-- The base at which a line is to be appended: the slice's own block turns, or is a new one. -/
theorem coll_base {M Bn : Nat} {W : World} {v : Value} {l : List Line} (hrow : W.ownsRow M 9 1 v l.length (svals l)) (hnil : v = .slice none 0 0 ↔ l = []) (hM : M ≤ W.heap.size) (hBn : Bn < W.heap.size) :
    ∃ M', W.ownsRow M' 9 1 v l.length (svals l) ∧ M ≤ M' ∧ M' ≤ W.heap.size ∧ (Bn < M' ∨ 1 ≤ l.length) := by
  by_cases h : l = []
  · obtain rfl := hnil.2 h
    subst h
    exact ⟨W.heap.size, World.ownsRow_nil _ _ _ _, hM, Nat.le_refl _, .inl hBn⟩
  · refine ⟨M, hrow, Nat.le_refl _, hM, .inr ?_⟩
    cases l with
    | nil => exact absurd rfl h
    | cons x l => simp

/-- Behind the append law's two words, all that a round owes. -/
theorem coll_step {W w1 : World} {n₀ M M' B Bn k : Nat} {v v' : Value} {X : ByteArray} {l : List Line} {x : Line} {tmp : Obj}
    (hv : Boxed W B 33 v) (hrow : W.ownsRow M' 9 1 v l.length (svals l)) (hnb : v.ownBlock ≠ some Bn) (hM : M ≤ M') (hn : n₀ ≤ M) (hMs : M' ≤ W.heap.size) (hB : n₀ ≤ B)
    (hBn : Boxed W Bn 9 (.string X)) (hor : Bn < M' ∨ 1 ≤ l.length) (hk : k = (l ++ [x]).length)
    (hown' : w1.ownsRow M' 9 1 v' k (svals (l ++ [x]))) (hgrow : (W.alloc tmp).grownBy w1 v.ownBlock) :
    Coll M B Bn (l ++ [x]) (w1.setCell ⟨B, 0, none⟩ v') ∧ KeepsOthers W (w1.setCell ⟨B, 0, none⟩ v') ∧ KeepT n₀ Bn W (w1.setCell ⟨B, 0, none⟩ v') ∧
    (∀ B' u, B' ≠ B → Boxed W B' 33 u → Boxed (w1.setCell ⟨B, 0, none⟩ v') B' 33 u) ∧
    (∀ (v5 : Value) (L : List Line), W.ownsRow n₀ 9 1 v5 L.length (svals L) → (∀ g, v5.ownBlock = some g → g < M) → (w1.setCell ⟨B, 0, none⟩ v').ownsRow n₀ 9 1 v5 L.length (svals L)) := by
  subst hk
  obtain ⟨h1, h2, h3, h4, h5⟩ := hv.appended (n₀ := n₀) (by decide) (ownsRow_weak hrow (show n₀ ≤ M' by omega)) (by omega) hB (ownsRow_weak hown' (show n₀ ≤ M' by omega)) hgrow
  have hBnB : Bn ≠ B := by
    rintro rfl
    have := hv.symm.trans hBn
    simp at this
  have hBn1 : w1.heap[Bn]? = W.heap[Bn]? := (hgrow.block Bn (by simp; have := hBn.lt; omega) (by exact fun e => hnb e.symm)).trans (Below.heap_alloc _ _ _ hBn.lt)
  refine ⟨⟨v', h2, ownsRow_weak (hown'.kept (grownBy_setCell' w1 B v') (.inr (h1.not_row (by decide) hown').symm)) hM, ?_, ?_⟩, h4, ⟨h5, ?_⟩, ?_, ?_⟩
  · constructor
    · rintro rfl
      have hx := hown'
      rw [List.length_append] at hx
      obtain ⟨g, cap, e⟩ := ownsRow_succ hx
      simp at e
    · intro h; simp at h
  · intro he
    have hb1 : Boxed w1 Bn 9 (.string X) := hBn1.trans hBn
    rcases hown'.2 with ⟨rfl, _⟩ | ⟨g, cap, cur, rfl, hg, hc, hk, _, hs, _⟩
    · simp [Value.ownBlock] at he
    · obtain rfl : g = Bn := by simpa [Value.ownBlock] using he
      rcases hor with h | h
      · omega
      · have := hb1.symm.trans hc
        simp at this
        rw [← this] at hs
        simp at hs hk
        omega
  · exact (Below.heap_setCell _ _ _ _ (by simpa using hBnB)).trans hBn1
  · intro B' u hne hu
    have hu1 : Boxed w1 B' 33 u := (hu.alloc tmp).kept hgrow (hu.not_row (by decide) hrow)
    exact (Below.heap_setCell _ _ _ _ (by simpa using hne)).trans hu1
  · intro v5 L h hlt
    have a1 : (W.alloc tmp).ownsRow n₀ 9 1 v5 L.length (svals L) := h.alloc _
    have a2 : w1.ownsRow n₀ 9 1 v5 L.length (svals L) := by
      refine a1.kept hgrow ?_
      cases e : v5.ownBlock with
      | none => exact .inl rfl
      | some g =>
        refine .inr fun e2 => ?_
        have := hlt g e
        have := (hrow.lt g e2.symm).1
        omega
    exact a2.kept (grownBy_setCell' w1 B v') (.inr (h1.not_row (by decide) a2).symm)

theorem ownsRow_own {β : Type} (n₀ : Nat) (e : TypeId) (size : Nat) (v : Value) (k : Nat) (xs : List Value) : Own (fun (_ : β) W => W.ownsRow n₀ e size v k xs) := by
  rintro s X Y row hr hg hrow
  refine hr.kept hg ?_
  rcases hr.2 with ⟨rfl, _⟩ | ⟨g, cap, cur, rfl, _, hgb, _⟩
  · exact .inl rfl
  · refine .inr fun e' => ?_
    obtain ⟨o, ho, hc⟩ := hrow g (by simpa [Value.ownBlock] using e'.symm)
    rw [hgb] at ho; cases ho; cases hc

/-- What the later loops leave: the first list; the marks of the loops ahead. -/
structure Fix (n₀ B5 : Nat) (v5 : Value) (L : List Line) (Ds : List Nat) (W : World) : Prop where
  bx : Boxed W B5 33 v5
  row : W.ownsRow n₀ 9 1 v5 L.length (svals L)
  df : ∀ D, D ∈ Ds → W.heap[D]? = some (.deferred (some []))

theorem Fix.own {n₀ B5 B : Nat} {v5 : Value} {L : List Line} {Ds : List Nat} (hD : ∀ D, D ∈ Ds → D < B) : OwnFrom B (fun (_ : List Line) W => Fix n₀ B5 v5 L Ds W) := by
  rintro s X Y row ⟨h1, h2, h3⟩ hg hrow
  have hr : ∀ r, row = some r → ∃ o : Obj, X.heap[r]? = some o ∧ o.isCells = false := fun r e => (hrow r e).2
  refine ⟨boxed_own (β := Unit) B5 33 (fun _ => v5) () X Y row h1 hg hr, ownsRow_own (β := Unit) n₀ 9 1 v5 _ _ () X Y row h2 hg hr, fun D hm => ?_⟩
  refine (hg.block D (Array.getElem?_eq_some_iff.1 (h3 D hm)).1 (fun e => ?_)).trans (h3 D hm)
  have := (hrow D e.symm).1
  have := hD D hm
  omega

theorem Fix.alloc {n₀ B5 : Nat} {v5 : Value} {L : List Line} {Ds : List Nat} {W : World} (h : Fix n₀ B5 v5 L Ds W) (o : Obj) : Fix n₀ B5 v5 L Ds (W.alloc o) :=
  ⟨h.bx.alloc _, h.row.alloc _, fun D hm => (Below.heap_alloc _ _ _ (Array.getElem?_eq_some_iff.1 (h.df D hm)).1).trans (h.df D hm)⟩

theorem Coll.move {M B Bn : Nat} {l : List Line} {W : World} (h : Coll M B Bn l W) (o : Obj) : Coll M B W.heap.size l (W.alloc o) := by
  obtain ⟨v, h1, h2, h3, _⟩ := h
  exact ⟨v, h1.alloc _, h2.alloc _, h3, fun e => by have := (h2.lt _ e).2; omega⟩
end Go.Proofs.YtgadnlnclpoeaaaDoor
