/- What LexTokens keeps: plain part, and the memory of its first loop. No condition. -/
import Derived.Test.YtkakphiofahlgaaDoorLxT
import Derived.Maps.AppendAt
namespace Go.Proofs.YtkakphiofahlgaaDoor
open Go.RowKit Go.Shelf Go.PlainAid

theorem line_count {s : ByteArray} {f i : Nat} (hi : i ≤ s.size) (he : (lineM s f ⟨i, [], []⟩).2.1 = 0) : i + (lineM s f ⟨i, [], []⟩).2.2.toks.length ≤ (lineM s f ⟨i, [], []⟩).2.2.place := by
  have h0 : i + (⟨i, [], []⟩ : LS).toks.length ≤ (⟨i, [], []⟩ : LS).place ∧ (⟨i, [], []⟩ : LS).place ≤ s.size := ⟨Nat.le_refl _, hi⟩
  refine (line_ind (fun st => i + st.toks.length ≤ st.place ∧ st.place ≤ s.size) ?_ ?_ ?_ ?_ ?_ ?_ ?_ f ⟨i, [], []⟩ h0 he).1
  · exact fun st h hlt _ => ⟨Nat.le_succ_of_le h.1, hlt⟩
  · exact fun st h hlt hc => ⟨Nat.le_trans h.1 (Nat.le_add_right _ _), cont_lt h.2 hc⟩
  · exact fun st h hlt hc => ⟨Nat.le_trans h.1 (Nat.le_of_lt (rem_gt hlt hc).1), (rem_gt hlt hc).2⟩
  · exact fun st h hlt _ => ⟨by have := h.1; simp [LS.tok]; omega, hlt⟩
  · exact fun st h hlt _ h5 => ⟨by have := h.1; simp [LS.tok]; omega, op_le3 h.2⟩
  · exact fun st m h hlt _ _ h0 _ h1 _ _ => ⟨by have := h.1; simp [LS.tok]; omega, h1⟩
  · intro st m h hlt _ _ h0 _ h1 _ _
    refine ⟨?_, by show st.del.place + m ≤ _; rw [del_place]; exact h1⟩
    have := h.1
    simp [LS.tok, del_place, del_toks]; omega
theorem top_count {s : ByteArray} {i : Nat} (hi : i ≤ s.size) (h : (topM s i).err = 0) : i + (topM s i).toks.length ≤ (topM s i).next ∧ (topM s i).next ≤ s.size ∧ s.size ≤ 65536 := by
  have hs : ¬ 65536 < s.size := fun hs => by unfold topM at h; rw [if_pos hs] at h; simp at h
  have ht : topM s i = atM s i := by unfold topM; rw [if_neg hs, if_neg (by omega)]; rfl
  rw [ht] at h ⊢
  have hg := line_count (s := s) (f := s.size) hi
  have hm := line_mono (s := s) (f := s.size) (st := ⟨i, [], []⟩) hi
  have hzz := line_zero s.size ⟨i, [], []⟩ hi
  rcases hln : lineM s s.size ⟨i, [], []⟩ with ⟨pl, er, st⟩
  rw [hln] at hg hzz hm
  by_cases he : er = 0
  · subst he
    obtain rfl : pl = 0 := hzz rfl
    have hst := hg rfl
    have hmm := (hm rfl).2
    have hdz := docs_zero (s := s) st.dels st.toks st.place
    have hco := docs_co (s := s) st.dels st.toks st.place hmm
    rcases hd : docsM s st.dels st.toks st.place with ⟨pl, er, ts, j⟩
    rw [hd] at hdz hco
    by_cases he : er = 0
    · subst he
      obtain rfl : pl = 0 := hdz rfl
      rw [at_ok hln hd]
      have h1 := congrArg List.length hco.1
      simp only [List.length_map] at h1
      have h2 : st.place ≤ j := hco.2.1
      have h3 : j ≤ s.size := hco.2.2
      simp only at hst h1 ⊢
      omega
    · rw [at_doc hln hd he] at h
      exact absurd h he
  · rw [at_bad hln he] at h
    exact absurd h he
/-- The tokens of a text's lines one behind the other, and the error that ended them. -/
def wantM (s : ByteArray) : Nat → Nat → List Tk × Nat
  | 0, _ => ([], 0)
  | f + 1, i => if (topM s i).err = 0 then (if (topM s i).next ≤ i ∨ s.size ≤ (topM s i).next then ((topM s i).toks, 0) else ((topM s i).toks ++ (wantM s f (topM s i).next).1, (wantM s f (topM s i).next).2)) else ([tk0], (topM s i).err)
section
variable {s : ByteArray} {f i : Nat}
theorem wt_bad (he : (topM s i).err ≠ 0) : wantM s (f + 1) i = ([tk0], (topM s i).err) := by rw [wantM, if_neg he]
theorem wt_end (he : (topM s i).err = 0) (h : (topM s i).next ≤ i ∨ s.size ≤ (topM s i).next) : wantM s (f + 1) i = ((topM s i).toks, 0) := by rw [wantM, if_pos he, if_pos h]
theorem wt_on (he : (topM s i).err = 0) (h : ¬ ((topM s i).next ≤ i ∨ s.size ≤ (topM s i).next)) : wantM s (f + 1) i = ((topM s i).toks ++ (wantM s f (topM s i).next).1, (wantM s f (topM s i).next).2) := by rw [wantM, if_pos he, if_neg h]
end
/-- Tokens with their errors beside them. -/
def tagE (l : List Tk) (e : Nat) : List (Tk × Nat) := if e = 0 then l.map (·, 0) else l.dropLast.map (·, 0) ++ [(tk0, e)]
theorem want_last {s : ByteArray} : ∀ (f i : Nat), (wantM s f i).2 ≠ 0 → ∃ l, (wantM s f i).1 = l ++ [tk0]
  | 0, i, h => absurd rfl h
  | f + 1, i, h => by
    unfold wantM at h ⊢
    split
    · rename_i he
      rw [if_pos he] at h
      split
      · rename_i h2
        rw [if_pos h2] at h
        exact absurd rfl h
      · rename_i h2
        rw [if_neg h2] at h
        obtain ⟨l, hl⟩ := want_last f (topM s i).next h
        exact ⟨(topM s i).toks ++ l, by simp only [hl]; simp⟩
    · exact ⟨[], rfl⟩
theorem tag_app {ts l : List Tk} {e : Nat} (h : e ≠ 0 → ∃ l', l = l' ++ [tk0]) : tagE (ts ++ l) e = ts.map (·, 0) ++ tagE l e := by
  unfold tagE
  split
  · simp
  · rename_i he
    obtain ⟨l', rfl⟩ := h he
    rw [← List.append_assoc, List.dropLast_concat, List.dropLast_concat]
    simp
theorem yields_want {s : ByteArray} : ∀ (f i : Nat), i < s.size → s.size ≤ i + f → yieldsM s f i = tagE (wantM s (f + 1) i).1 (wantM s (f + 1) i).2
  | 0, i, h, hf => absurd h (by omega)
  | f + 1, i, h, hf => by
    by_cases he : (topM s i).err = 0
    · have hnx := top_next h he
      rw [yl_on h he]
      by_cases h2 : (topM s i).next ≤ i ∨ s.size ≤ (topM s i).next
      · rw [wt_end he h2, yl_end (by omega)]
        simp [tagE]
      · rw [wt_on he h2]
        have ih := yields_want (s := s) f (topM s i).next (by omega) (by omega)
        rw [ih]
        exact (tag_app (want_last _ _)).symm
    · rw [yl_bad h he, wt_bad he]
      simp [tagE, he]
theorem yields_all (s : ByteArray) : yieldsM s s.size 0 = tagE (wantM s (s.size + 1) 0).1 (wantM s (s.size + 1) 0).2 := by
  by_cases h : 0 < s.size
  · exact yields_want s.size 0 h (by omega)
  · have h0 : s.size = 0 := by omega
    have ht : topM s (0 : Nat) = ⟨[], 0, 0, 0⟩ := by
      unfold topM
      rw [if_neg (by omega), if_neg (by omega)]
      refine at_ok (st := ⟨0, [], []⟩) (line_end (by show ¬ 0 < s.size; omega)) rfl
    rw [yl_end h, wt_end (by rw [ht]) (by rw [ht]; exact .inl (Nat.le_refl _)), ht]
    rfl
theorem tag_len {l : List Tk} {e : Nat} (h : e ≠ 0 → ∃ l', l = l' ++ [tk0]) : (tagE l e).length = l.length := by
  unfold tagE
  split
  · simp
  · rename_i he
    obtain ⟨l', rfl⟩ := h he
    simp
/-- What stands at a place of the tagged list. -/
theorem tag_get {l : List Tk} {e k : Nat} {x : Tk × Nat} (h : e ≠ 0 → ∃ l', l = l' ++ [tk0]) (hx : (tagE l e)[k]? = some x) : l[k]? = some x.1 ∧ (x.2 ≠ 0 → k + 1 = l.length ∧ x.2 = e) := by
  unfold tagE at hx
  split at hx
  · rw [List.getElem?_map] at hx
    cases hk : l[k]? with
    | none => rw [hk] at hx; simp at hx
    | some t => rw [hk] at hx; obtain rfl : (t, 0) = x := by simpa using hx
                exact ⟨rfl, fun h => absurd rfl h⟩
  · rename_i he
    obtain ⟨l', rfl⟩ := h he
    rw [List.dropLast_concat] at hx
    by_cases hk : k < l'.length
    · rw [List.getElem?_append_left (by simpa using hk), List.getElem?_map] at hx
      rw [List.getElem?_append_left hk]
      cases hk2 : l'[k]? with
      | none => rw [hk2] at hx; simp at hx
      | some t => rw [hk2] at hx; obtain rfl : (t, 0) = x := by simpa using hx
                  exact ⟨rfl, fun h => absurd rfl h⟩
    · rw [List.getElem?_append_right (by simpa using hk), List.length_map] at hx
      have hk0 : k - l'.length = 0 := by
        have := (List.getElem?_eq_some_iff.1 hx).1
        simp at this; omega
      rw [hk0] at hx
      obtain rfl : (tk0, e) = x := by simpa using hx
      obtain rfl : k = l'.length := by omega
      refine ⟨by simp, fun _ => ⟨by simp, rfl⟩⟩

/-- The memory of the first loop. -/
structure TS (w : World) (b3 b5 : Nat) (stop : Int) (a : Option Addr) (c : Nat) (ts : List Tk) (er : Nat) (wr : World) : Prop where
  s3 : Blk wr b3 3 #[.int .i64 stop]
  s4 : Blk wr (b3 + 1) 4 #[.bool false]
  s5 : Blk wr b5 23 #[.slice a ts.length c]
  s6 : Blk wr (b5 + 1) 24 #[.int .i64 er]
  row : wr.ownsRow w.heap.size 28 5 (.slice a ts.length c) ts.length (tv ts)
  below : Below w.heap.size w wr
  base : w.heap.size ≤ b3 ∧ b3 + 1 < b5
section
variable {w wr w' : World} {b3 b5 c er : Nat} {stop : Int} {a : Option Addr} {ts : List Tk}
theorem TS.beneath (h : TS w b3 b5 stop a c ts er wr) (hb : Below wr.heap.size wr w') : TS w b3 b5 stop a c ts er w' :=
  ⟨blk_beneath h.s3 hb, blk_beneath h.s4 hb, blk_beneath h.s5 hb, blk_beneath h.s6 hb, row_beneath h.row hb, h.below.trans (below_of hb h.below.size), h.base⟩
theorem TS.app {a' : Option Addr} {c' : Nat} {l : List Tk} {w3 : World} (h : TS w b3 b5 stop a c ts er wr) (hown : w3.ownsRow w.heap.size 28 5 (.slice a' (ts ++ l).length c') (ts ++ l).length (tv ts ++ tv l)) (hg : wr.grownBy w3 (Value.ownBlock (.slice a ts.length c))) :
    TS w b3 b5 stop a' c' (ts ++ l) er (w3.setCell ⟨b5, 0, none⟩ (.slice a' (ts ++ l).length c')) := by
  have keep : ∀ {g : Nat} {t : TypeId} {cs : Array Value}, Blk wr g t cs → t ≠ 28 → Blk w3 g t cs := fun hb ht => (hg.block _ hb.lt (row_off hb ht h.row)).trans hb
  have hb := h.base
  have k5 := keep h.s5 (by decide)
  refine ⟨(keep h.s3 (by decide)).far (by show b3 ≠ b5; omega) _, (keep h.s4 (by decide)).far (by show b3 + 1 ≠ b5; omega) _, k5.set_ 0 _, (keep h.s6 (by decide)).far (by show b5 + 1 ≠ b5; omega) _, ?_, ?_, hb⟩
  · have e : tv (ts ++ l) = tv ts ++ tv l := by simp [tv]
    rw [e]
    exact row_keep hown (fun g hg' => Below.heap_setCell _ _ _ _ (fun e => row_off k5 (by decide) hown (by rw [hg', e])))
  · exact ((h.below.grown hg h.below.size (fun q e => (h.row.lt q e).1))).setCell (p := ⟨b5, 0, none⟩) (by show w.heap.size ≤ b5; omega) _
theorem TS.erred (h : TS w b3 b5 stop a c ts er wr) (v : Nat) : TS w b3 b5 stop a c ts v (wr.setCell ⟨b5 + 1, 0, none⟩ (.int .i64 v)) := by
  have hb := h.base
  exact ⟨h.s3.far (by show b3 ≠ b5 + 1; omega) _, h.s4.far (by show b3 + 1 ≠ b5 + 1; omega) _, h.s5.far (by show b5 ≠ b5 + 1; omega) _, h.s6.set_ 0 _,
    row_keep h.row (fun g hg' => Below.heap_setCell _ _ _ _ (fun e => row_off h.s6 (by decide) h.row (by rw [hg', e]))), h.below.setCell (p := ⟨b5 + 1, 0, none⟩) (by show w.heap.size ≤ b5 + 1; omega) _, hb⟩
end
end Go.Proofs.YtkakphiofahlgaaDoor
