/- Line moves on; what the iterator over a text's tokens gives. No condition. -/
import Derived.Test.YtkakphiofahlgaaDoorLxQ
import Derived.RangeFuncNested
import Derived.RangeFuncBound
import Derived.RangeFuncCalls
import Derived.RangeFuncLeaves
import Derived.RangeFuncFrom
import Derived.RangeFuncBox
import Derived.Shelf.Abstract
import Derived.Shelf.RegionOpen
import Derived.OwnWalk
import Derived.OwnWalkIn
import Derived.TacticsInMore
import Derived.LoopNIn
import Derived.LoopIn
import Derived.Sort.CutIn
import Derived.Sort.QuietIn
namespace Go.Proofs.YtkakphiofahlgaaDoor
open Go.RowKit Go.PlainAid

theorem line_mono {s : ByteArray} {f : Nat} {st : LS} (hp : st.place ≤ s.size) (he : (lineM s f st).2.1 = 0) : st.place ≤ (lineM s f st).2.2.place ∧ (lineM s f st).2.2.place ≤ s.size := by
  obtain ⟨i, hi⟩ : ∃ i, st.place = i := ⟨_, rfl⟩
  rw [hi]
  refine line_ind (fun st => i ≤ st.place ∧ st.place ≤ s.size) ?_ ?_ ?_ ?_ ?_ ?_ ?_ f st ⟨by omega, hp⟩ he
  · exact fun st h hlt _ => ⟨Nat.le_succ_of_le h.1, hlt⟩
  · exact fun st h hlt hc => ⟨Nat.le_trans h.1 (Nat.le_add_right _ _), cont_lt h.2 hc⟩
  · exact fun st h hlt hc => ⟨Nat.le_trans h.1 (Nat.le_of_lt (rem_gt hlt hc).1), (rem_gt hlt hc).2⟩
  · exact fun st h hlt _ => ⟨Nat.le_succ_of_le h.1, hlt⟩
  · exact fun st h hlt _ h5 => ⟨Nat.le_trans h.1 (Nat.le_add_right _ _), op_le3 h.2⟩
  · exact fun st m h hlt _ _ h0 _ h1 _ _ => ⟨Nat.le_trans h.1 (Nat.le_add_right _ _), h1⟩
  · intro st m h hlt _ _ h0 _ h1 _ _
    have e : (st.del.tok s 1 m).place = st.place + m := by show st.del.place + m = _; rw [del_place]
    rw [e]
    exact ⟨Nat.le_trans h.1 (Nat.le_add_right _ _), h1⟩
theorem line_gt {s : ByteArray} {f : Nat} {st : LS} (hlt : st.place < s.size) (he : (lineM s (f + 1) st).2.1 = 0) : st.place < (lineM s (f + 1) st).2.2.place ∧ (lineM s (f + 1) st).2.2.place ≤ s.size := by
  have go : ∀ st2 : LS, st.place < st2.place → st2.place ≤ s.size → (lineM s f st2).2.1 = 0 → st.place < (lineM s f st2).2.2.place ∧ (lineM s f st2).2.2.place ≤ s.size := fun st2 h1 h2 h3 => by
    have := line_mono (f := f) h2 h3
    omega
  cases h1 : (bt s st.place == 32 || bt s st.place == 9)
  · cases h2 : contM s st.place
    · cases h3 : (bt s st.place == 35)
      · cases h4 : (bt s st.place == 10)
        · by_cases h5 : 0 < opN (s.extract st.place s.size)
          · rw [line_op hlt h1 h2 h3 h4 h5] at he ⊢
            exact go _ (Nat.lt_add_of_pos_right h5) (op_le3 (Nat.le_of_lt hlt)) he
          · by_cases h6 : (wordM s st).2.1 = 0
            · rw [line_word hlt h1 h2 h3 h4 h5 h6] at he ⊢
              have := word_moves hlt (ends_of hlt h1 h4 h5) h6
              exact go _ this.1 this.2.1 he
            · rw [line_bad hlt h1 h2 h3 h4 h5 h6] at he
              exact absurd he h6
        · rw [line_nl hlt h1 h2 h3 h4]
          exact ⟨Nat.lt_succ_self _, hlt⟩
      · rw [line_rem hlt h1 h2 h3] at he ⊢
        exact go _ (rem_gt hlt h3).1 (rem_gt hlt h3).2 he
    · rw [line_cont hlt h1 h2] at he ⊢
      exact go _ (Nat.lt_add_of_pos_right (by decide)) (cont_lt (Nat.le_of_lt hlt) h2) he
  · rw [line_blank hlt h1] at he ⊢
    exact go _ (Nat.lt_succ_self _) hlt he
theorem top_next {s : ByteArray} {i : Nat} (hlt : i < s.size) (h : (topM s i).err = 0) : i < (topM s i).next ∧ (topM s i).next ≤ s.size := by
  have hs : ¬ 65536 < s.size := fun hs => by unfold topM at h; rw [if_pos hs] at h; simp at h
  have ht : topM s i = atM s i := by unfold topM; rw [if_neg hs, if_neg (by omega)]; rfl
  rw [ht] at h ⊢
  obtain ⟨z, hz⟩ : ∃ z, s.size = z + 1 := ⟨s.size - 1, by omega⟩
  have hg := line_gt (s := s) (f := z) (st := ⟨i, [], []⟩) hlt
  rw [← hz] at hg
  have hzz := line_zero s.size ⟨i, [], []⟩ (Nat.le_of_lt hlt)
  rcases hln : lineM s s.size ⟨i, [], []⟩ with ⟨pl, er, st⟩
  rw [hln] at hg hzz
  by_cases he : er = 0
  · subst he
    obtain rfl : pl = 0 := hzz rfl
    have hst := hg rfl
    have hdz := docs_zero (s := s) st.dels st.toks st.place
    have hco := docs_co (s := s) st.dels st.toks st.place hst.2
    rcases hd : docsM s st.dels st.toks st.place with ⟨pl, er, ts, j⟩
    rw [hd] at hdz hco
    by_cases he : er = 0
    · subst he
      obtain rfl : pl = 0 := hdz rfl
      rw [at_ok hln hd]
      have h1 : i < st.place := hst.1
      have h2 : st.place ≤ j := hco.2.1
      have h3 : j ≤ s.size := hco.2.2
      show i < j ∧ j ≤ s.size
      omega
    · rw [at_doc hln hd he] at h
      exact absurd h he
  · rw [at_bad hln he] at h
    exact absurd h he

def Tk.agg (t : Tk) : Value := .agg #[.int .i64 t.kind, .string t.text, .int .i64 t.place, .string t.doc, .bool t.raw]
def tk0 : Tk := ⟨0, ⟨#[]⟩, 0, ⟨#[]⟩, false⟩
def encK (x : Tk × Nat) : Array Value := #[x.1.agg, .int .i64 x.2]
/-- All that the iterator gives from a place on. -/
def yieldsM (s : ByteArray) : Nat → Nat → List (Tk × Nat)
  | 0, _ => []
  | f + 1, i => if i < s.size then (if (topM s i).err = 0 then (topM s i).toks.map (·, 0) ++ yieldsM s f (topM s i).next else [(tk0, (topM s i).err)]) else []
section
variable {s : ByteArray} {f i : Nat}
theorem yl_end (h : ¬ i < s.size) : yieldsM s f i = [] := by
  cases f with
  | zero => rfl
  | succ f => rw [yieldsM, if_neg h]
theorem yl_bad (h : i < s.size) (he : (topM s i).err ≠ 0) : yieldsM s (f + 1) i = [(tk0, (topM s i).err)] := by
  rw [yieldsM, if_pos h, if_neg he]
theorem yl_on (h : i < s.size) (he : (topM s i).err = 0) : yieldsM s (f + 1) i = (topM s i).toks.map (·, 0) ++ yieldsM s f (topM s i).next := by
  rw [yieldsM, if_pos h, if_pos he]
end
/-- What a round keeps: every block of cells but those in S. -/
structure KeepC (S : Nat → Prop) (W W' : World) : Prop where
  size : W.heap.size ≤ W'.heap.size
  same : ∀ g o, W.heap[g]? = some o → o.isCells = true → ¬ S g → W'.heap[g]? = some o
theorem KeepC.trans {S : Nat → Prop} {A B C : World} (h : KeepC S A B) (k : KeepC S B C) : KeepC S A C :=
  ⟨Nat.le_trans h.size k.size, fun g o h1 h2 h3 => k.same g o (h.same g o h1 h2 h3) h2 h3⟩
theorem keepC_put {S : Nat → Prop} (W : World) (l : Nat) (o o' : Obj) (h : W.heap[l]? = some o) (h1 : o.isCells = false) : KeepC S W (W.putObj l o') :=
  ⟨by simp [World.putObj], fun g o2 hg hc _ => by
    by_cases e : g = l
    · subst e
      rw [h] at hg
      cases hg
      rw [h1] at hc
      cases hc
    · exact (World.putObj_heap_other (by omega)).trans hg⟩
theorem KeepC.blk {S : Nat → Prop} {W W' : World} (h : KeepC S W W') {g : Nat} {t : TypeId} {cs : Array Value} (hb : Blk W g t cs) (hg : ¬ S g) : Blk W' g t cs := h.same g _ hb rfl hg
theorem KeepC.heap {S : Nat → Prop} {W W' : World} (h : KeepC S W W') {g : Nat} {o : Obj} (hb : W.heap[g]? = some o) (hc : o.isCells = true) (hg : ¬ S g) : W'.heap[g]? = W.heap[g]? := (h.same g _ hb hc hg).trans hb.symm
theorem keepC_of {S : Nat → Prop} {W W' : World} (h : Below W.heap.size W W') : KeepC S W W' :=
  ⟨h.size, fun g _ hg _ _ => (h.block g (Array.getElem?_eq_some_iff.1 hg).1).trans hg⟩
end Go.Proofs.YtkakphiofahlgaaDoor
