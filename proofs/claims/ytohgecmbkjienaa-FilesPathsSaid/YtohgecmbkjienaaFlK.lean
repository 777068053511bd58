/- The slots: what is cut, what is put; release, New. Condition: the tree lies as stated. -/
import Derived.Test.YtohgecmbkjienaaFlH
namespace Go.Proofs.Ytohgecmbkjienaa
open Go.RowKit Go.PlainAid
attribute [local go_sem] Oper.semAt_some

theorem ptr_info : (Try.prog.info? 77).map (fun i => (i.zero, i.size, i.bytes)) = some (some (.pointer none), 1, 8) := by kernel_rfl
section
variable {w : World} {B : Nat → Nat → Prop} {p : Nat} {f : Fs} {sv : Value} {ps : List (Option Nat)}

theorem upB_same (B : Nat → Nat → Prop) (i : Nat) (S : Nat → Prop) : upB B i S i = S := by funext g; unfold upB; rw [if_pos rfl]
theorem upB_ne (B : Nat → Nat → Prop) {i j : Nat} (h : j ≠ i) (S : Nat → Prop) : upB B i S j = B j := by funext g; unfold upB; rw [if_neg h]
/-- A slot turns. -/
theorem FsAt.slot (h : FsAt w B p f sv ps) {i : Nat} (hi : i < f.length) {w1 : World} (hb : Below w.heap.size w w1) {o : Option Nat} {x : Option Ino} {S : Nat → Prop} (hx : (x = none ∧ o = none) ∨ ∃ I q, x = some I ∧ o = some q ∧ InoIs w1 S q I) (hS : ∀ g, S g → w.heap.size ≤ g ∧ g < w1.heap.size) {g c : Nat} (hsv : sv = .slice (some ⟨g, 0, none⟩) ps.length c) :
    FsP (All B) w (w1.setCell ⟨g, i, none⟩ (ptrV o)) p (f.set i x) := by
  subst hsv
  have hg0 : B 0 g := h.bs g rfl
  have hgl := h.lt 0 g hg0
  have hpg : p ≠ g := fun e => row_off h.blk ends_ne.2.2.2 h.row (by rw [e]; rfl)
  have hrow := (row_beneath h.row hb)
  obtain ⟨hr2, hg2⟩ := hrow.stored i (ptrV o)
  have hkeep : ∀ j k, B j k → k ≠ g → (w1.setCell ⟨g, i, none⟩ (ptrV o)).heap[k]? = w.heap[k]? := fun j k hk hne => (Below.heap_setCell _ _ _ _ (fun e => hne e)).trans (hb.block k (h.lt j k hk))
  have hps : (ptrs ps).set i (ptrV o) = ptrs (ps.set i o) := by unfold ptrs; rw [List.map_set]
  refine ⟨upB B (i + 1) S, ⟨.slice (some ⟨g, 0, none⟩) ps.length c, ps.set i o, ?_, ?_, ?_, ?_, ?_, fun j I hj => ?_, fun j hj => ?_, fun a b k ha hb' => ?_, fun a k ha => ?_⟩, fun k ⟨j, hj⟩ => ?_, ?_⟩
  · exact h.blk.keep (hkeep 0 p h.bp hpg)
  · rw [List.length_set, ← hps]; exact hr2
  · rw [List.length_set, List.length_set, h.len]
  · rw [upB_ne B (by omega)]; exact h.bp
  · rw [upB_ne B (by omega)]; intro k hk; exact h.bs k hk
  · by_cases e : j = i
    · subst e
      rw [List.getElem?_set_self hi] at hj
      rcases hx with ⟨h1, _⟩ | ⟨I2, q, h1, h2, dv, ev, h3⟩
      · rw [h1] at hj; cases hj
      · rw [h1] at hj
        cases hj
        refine ⟨q, by rw [h2, List.getElem?_set_self (by rw [h.len]; exact hi)], dv, ev, ?_⟩
        rw [upB_same]
        exact h3.keep (by simp) (fun k hk => Below.heap_setCell _ _ _ _ (fun e => by have := (hS k hk).1; have : k = g := e; omega))
    · rw [List.getElem?_set_ne (fun h => e h.symm)] at hj
      obtain ⟨q', h1, dv, ev, h2⟩ := h.some_ j I hj
      refine ⟨q', by rw [List.getElem?_set_ne (fun h => e h.symm)]; exact h1, dv, ev, ?_⟩
      rw [upB_ne B (by omega)]
      exact h2.keep (by rw [World.size_setCell]; exact hb.size) (fun k hk => hkeep (j + 1) k hk (fun e2 => by have := h.apart _ _ _ hk (e2 ▸ hg0); omega))
  · by_cases e : j = i
    · subst e
      rw [List.getElem?_set_self hi] at hj
      rcases hx with ⟨_, h2⟩ | ⟨I2, q, h1, _⟩
      · rw [h2, List.getElem?_set_self (by rw [h.len]; exact hi)]
      · rw [h1] at hj; cases hj
    · rw [List.getElem?_set_ne (fun h => e h.symm)] at hj ⊢
      exact h.none_ j hj
  · unfold upB at ha hb'
    split at ha
    · split at hb'
      · omega
      · have := (hS k ha).1; have := h.lt _ _ hb'; omega
    · split at hb'
      · have := (hS k hb').1; have := h.lt _ _ ha; omega
      · exact h.apart _ _ _ ha hb'
  · rw [World.size_setCell]
    unfold upB at ha
    split at ha
    · exact (hS k ha).2
    · exact Nat.lt_of_lt_of_le (h.lt _ _ ha) hb.size
  · unfold upB at hj
    split at hj
    · exact .inr (hS k hj).1
    · exact .inl ⟨_, hj⟩
  · exact (Frm.of_below hb).setCell (.inl ⟨0, hg0⟩) _
/-- A slot more. -/
theorem FsAt.push (h : FsAt w B p f sv ps) {w1 w2 : World} (hb : Below w.heap.size w w1) (hg : w1.grownBy w2 sv.ownBlock) {I : Ino} {q : Nat} {S : Nat → Prop} (hx : InoIs w1 S q I) (hS : ∀ g, S g → w.heap.size ≤ g ∧ g < w1.heap.size) {v' : Value} (hrow : w2.ownsRow 0 77 1 v' (ps.length + 1) (ptrs ps ++ [ptrV (some q)])) (hat : ∀ g, v'.ownBlock = some g → sv.ownBlock = some g ∨ w1.heap.size ≤ g) :
    FsP (All B) w (w2.setCell ⟨p, 0, none⟩ v') p (f ++ [some I]) := by
  have hpl := h.lt 0 p h.bp
  have hkeep : ∀ j k, B j k → k ≠ p → some k ≠ sv.ownBlock → (w2.setCell ⟨p, 0, none⟩ v').heap[k]? = w.heap[k]? := fun j k hk h1 h2 => (Below.heap_setCell _ _ _ _ (fun e => h1 e)).trans ((hg.block k (Nat.lt_of_lt_of_le (h.lt j k hk) hb.size) h2).trans (hb.block k (h.lt j k hk)))
  have hB2 : Blk w2 p 68 #[sv] := blk_grown (blk_beneath h.blk hb) hg (row_off h.blk ends_ne.2.2.2 h.row)
  have hS0 : ∀ g, v'.ownBlock = some g → B 0 g ∨ w1.heap.size ≤ g := fun g hg2 => (hat g hg2).imp (h.bs g) id
  have hs1 := hb.size
  have hs2 := hg.size
  refine ⟨fun j k => if j = 0 then B 0 k ∨ (w1.heap.size ≤ k ∧ k < w2.heap.size) else if j = f.length + 1 then S k else B j k, ⟨v', ps ++ [some q], ?_, ?_, ?_, ?_, ?_, fun j J hj => ?_, fun j hj => ?_, fun a b k ha hb' => ?_, fun a k ha => ?_⟩, fun k ⟨j, hj⟩ => ?_, ?_⟩
  · exact hB2.set_ 0 v'
  · rw [List.length_append]
    unfold ptrs at hrow ⊢
    rw [List.map_append]
    exact row_set hrow hB2 ends_ne.2.2.2 _
  · rw [List.length_append, List.length_append, h.len]; rfl
  · rw [if_pos rfl]; exact .inl h.bp
  · intro g hg2
    rw [if_pos rfl]
    rcases hS0 g hg2 with h3 | h3
    · exact .inl h3
    · exact .inr ⟨h3, row_lt hrow hg2⟩
  · by_cases e : j < f.length
    · rw [List.getElem?_append_left e] at hj
      obtain ⟨q', h1, dv, ev, h2⟩ := h.some_ j J hj
      refine ⟨q', by rw [List.getElem?_append_left (by rw [h.len]; exact e)]; exact h1, dv, ev, ?_⟩
      have e2 : (fun k => if j + 1 = 0 then B 0 k ∨ (w1.heap.size ≤ k ∧ k < w2.heap.size) else if j + 1 = f.length + 1 then S k else B (j + 1) k) = B (j + 1) := by funext k; rw [if_neg (by omega), if_neg (by omega)]
      show InoAt _ (fun k => if j + 1 = 0 then B 0 k ∨ (w1.heap.size ≤ k ∧ k < w2.heap.size) else if j + 1 = f.length + 1 then S k else B (j + 1) k) _ _ _ _
      rw [e2]
      exact h2.keep (by rw [World.size_setCell]; omega) (fun k hk => hkeep (j + 1) k hk (fun e3 => by have := h.apart _ _ _ hk (e3 ▸ h.bp); omega) (fun e3 => by have := h.apart _ _ _ hk (h.bs k e3.symm); omega))
    · rw [List.getElem?_append_right (by omega)] at hj
      cases hk : j - f.length with
      | succ n => rw [hk] at hj; simp at hj
      | zero =>
        rw [hk] at hj
        cases hj
        obtain rfl : j = f.length := by omega
        obtain ⟨dv, ev, h3⟩ := hx
        refine ⟨q, by rw [List.getElem?_append_right (by rw [h.len]; exact Nat.le_refl _), h.len, Nat.sub_self]; rfl, dv, ev, ?_⟩
        have e2 : (fun k => if f.length + 1 = 0 then B 0 k ∨ (w1.heap.size ≤ k ∧ k < w2.heap.size) else if f.length + 1 = f.length + 1 then S k else B (f.length + 1) k) = S := by funext k; rw [if_neg (by omega), if_pos rfl]
        show InoAt _ (fun k => if f.length + 1 = 0 then B 0 k ∨ (w1.heap.size ≤ k ∧ k < w2.heap.size) else if f.length + 1 = f.length + 1 then S k else B (f.length + 1) k) _ _ _ _
        rw [e2]
        exact h3.keep (by rw [World.size_setCell]; exact hs2) (fun k hk => (Below.heap_setCell _ _ _ _ (fun e3 => by have := (hS k hk).1; have : k = p := e3; omega)).trans (hg.block k (hS k hk).2 (fun e3 => by have := (hS k hk).1; have := h.lt _ _ (h.bs k e3.symm); omega)))
  · by_cases e : j < f.length
    · rw [List.getElem?_append_left e] at hj
      rw [List.getElem?_append_left (by rw [h.len]; exact e)]
      exact h.none_ j hj
    · rw [List.getElem?_append_right (by omega)] at hj
      cases hk : j - f.length with
      | succ n => rw [hk] at hj; simp at hj
      | zero => rw [hk] at hj; cases hj
  · by_cases a0 : a = 0
    · by_cases b0 : b = 0
      · omega
      · rw [if_pos a0] at ha
        rw [if_neg b0] at hb'
        by_cases b1 : b = f.length + 1
        · rw [if_pos b1] at hb'
          have := hS k hb'
          rcases ha with h3 | h3
          · have := h.lt _ _ h3; omega
          · omega
        · rw [if_neg b1] at hb'
          have := h.lt _ _ hb'
          rcases ha with h3 | h3
          · exact absurd (h.apart _ _ _ h3 hb') (by omega)
          · omega
    · rw [if_neg a0] at ha
      by_cases b0 : b = 0
      · rw [if_pos b0] at hb'
        by_cases a1 : a = f.length + 1
        · rw [if_pos a1] at ha
          have := hS k ha
          rcases hb' with h3 | h3
          · have := h.lt _ _ h3; omega
          · omega
        · rw [if_neg a1] at ha
          have := h.lt _ _ ha
          rcases hb' with h3 | h3
          · exact absurd (h.apart _ _ _ h3 ha) (by omega)
          · omega
      · rw [if_neg b0] at hb'
        by_cases a1 : a = f.length + 1
        · by_cases b1 : b = f.length + 1
          · omega
          · rw [if_pos a1] at ha
            rw [if_neg b1] at hb'
            have := hS k ha
            have := h.lt _ _ hb'
            omega
        · rw [if_neg a1] at ha
          by_cases b1 : b = f.length + 1
          · rw [if_pos b1] at hb'
            have := hS k hb'
            have := h.lt _ _ ha
            omega
          · rw [if_neg b1] at hb'
            exact h.apart _ _ _ ha hb'
  · rw [World.size_setCell]
    split at ha
    · rcases ha with h3 | h3
      · have := h.lt _ _ h3; omega
      · exact h3.2
    · split at ha
      · have := hS k ha; omega
      · have := h.lt _ _ ha; omega
  · dsimp only at hj
    split at hj
    · rcases hj with h3 | h3
      · exact .inl ⟨_, h3⟩
      · exact .inr (by omega)
    · split at hj
      · exact .inr (hS k hj).1
      · exact .inl ⟨_, hj⟩
  · exact (((Frm.of_below hb).grown hg (fun g hg2 => .inl ⟨0, h.bs g hg2⟩))).setCell (.inl ⟨0, h.bp⟩) _

theorem cut_any (h : FsAt w B p f sv ps) {i : Nat} (hi : i < f.length) (hlen : f.length ≤ 100000) : Calls Try.prog 68 #[.pointer (some ⟨p, 0, none⟩), .int .i64 ((i : Int) + 1)] w fun e w' => e = .returned (.tuple #[]) ∧ FsP (All B) w w' p (f.set i none) := by
  obtain ⟨o, ho⟩ : ∃ o, ps[i]? = some o := ⟨_, List.getElem?_eq_getElem (by rw [h.len]; exact hi)⟩
  obtain ⟨m, hm⟩ : ∃ m, ps.length = m := ⟨_, rfl⟩
  have hil : i < m := by rw [← hm, h.len]; exact hi
  have hml : m ≤ 100000 := by rw [← hm, h.len]; exact hlen
  obtain ⟨g, c, e, hc, hf⟩ := slot_cell h ho
  have hP := Lib.hid (h.slot hi (Below.refl _ _) (o := none) (x := none) (S := fun _ => False) (.inl ⟨rfl, rfl⟩) (fun g h => h.elim) e)
  subst e
  have c0 : w.cell? ⟨p, 0, none⟩ = some (.slice (some ⟨g, 0, none⟩) m c) := by rw [← hm]; exact h.blk.cell 0
  have hi3 : ¬ m < i + 1 := by omega
  clear h hm ho hi hlen
  go_enter Try.func68, Try.ntmps68
  go_wp2
  go_end0
  exact ⟨rfl, hP.out⟩
end
end Go.Proofs.Ytohgecmbkjienaa
