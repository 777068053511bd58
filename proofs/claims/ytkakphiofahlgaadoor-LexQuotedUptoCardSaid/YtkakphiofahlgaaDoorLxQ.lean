/- Each token stands in the text where it says. No condition. -/
import Derived.Test.YtkakphiofahlgaaDoorLxP
namespace Go.Proofs.YtkakphiofahlgaaDoor
open Go.RowKit Go.PlainAid

/-- What may stand between two tokens. -/
def blankB (c : Int) : Bool := c == 9 || c == 32 || c == 92 || c == 10
def Gap (s : ByteArray) (i j : Nat) : Prop := ∃ k, i ≤ k ∧ k ≤ j ∧ (∀ x, i ≤ x → x < k → blankB (bt s x) = true) ∧ (k < j → (bt s k == 35) = true)
theorem gap_refl (s : ByteArray) (i : Nat) : Gap s i i := ⟨i, Nat.le_refl _, Nat.le_refl _, fun x h1 h2 => absurd h2 (by omega), fun h => absurd h (by omega)⟩
theorem gap_blank {s : ByteArray} {i j : Nat} (h : Gap s i j) (hb : blankB (bt s j) = true) : Gap s i (j + 1) := by
  obtain ⟨k, h1, h2, h3, h4⟩ := h
  by_cases hk : k = j
  · subst hk
    refine ⟨k + 1, by omega, Nat.le_refl _, fun x hx1 hx2 => ?_, fun h => absurd h (by omega)⟩
    by_cases e : x = k
    · rw [e]; exact hb
    · exact h3 x hx1 (by omega)
  · exact ⟨k, h1, by omega, h3, fun _ => h4 (by omega)⟩
theorem gap_rem {s : ByteArray} {i j j' : Nat} (h : Gap s i j) (hb : (bt s j == 35) = true) (hj : j ≤ j') : Gap s i j' := by
  obtain ⟨k, h1, h2, h3, h4⟩ := h
  refine ⟨k, h1, by omega, h3, fun _ => ?_⟩
  by_cases hk : k = j
  · rw [hk]; exact hb
  · exact h4 (by omega)
theorem cont_bytes {s : ByteArray} {i : Nat} (hi : i ≤ s.size) (h : contM s i = true) : (bt s i == 92) = true ∧ (bt s (i + 1) == 10) = true := by
  have hlt := cont_lt hi h
  obtain ⟨t, ht⟩ := List.isPrefixOf_iff_prefix.1 h
  rw [Lib.extract_data] at ht
  have get : ∀ j, j < 2 → s.data.toList[i + j]? = ([92, 10] : List UInt8)[j]? := fun j hj => by
    have h1 : (List.take (s.size - i) (List.drop i s.data.toList))[j]? = s.data.toList[i + j]? := by
      rw [List.getElem?_take, if_pos (by omega), List.getElem?_drop]
    rw [← h1, ← ht]
    rw [List.getElem?_append_left (by simpa using hj)]
  have bb : ∀ j c, j < 2 → ([92, 10] : List UInt8)[j]? = some c → bt s (i + j) = (c.toNat : Int) := fun j c hj hc => by
    have h1 := get j hj
    rw [hc] at h1
    unfold bt
    rw [dif_pos (by omega)]
    obtain ⟨h2, h3⟩ := List.getElem?_eq_some_iff.1 h1
    have : s[i + j]'(by omega) = c := by rw [← h3]; rfl
    rw [this]
  have h0 := bb 0 92 (by omega) rfl
  have h1 := bb 1 10 (by omega) rfl
  rw [Nat.add_zero] at h0
  rw [h0, h1]
  exact ⟨rfl, rfl⟩

/-- A token but for its document. -/
abbrev Co := Int × ByteArray × Nat
def Tk.co (t : Tk) : Co := (t.kind, t.text, t.place)
def endC (cs : List Co) : Nat := match cs.getLast? with | some c => c.2.2 + c.2.1.size | none => 0
theorem endC_app (cs : List Co) (c : Co) : endC (cs ++ [c]) = c.2.2 + c.2.1.size := by unfold endC; simp
structure CoOk (s : ByteArray) (e : Nat) (c : Co) : Prop where
  text : c.2.1 = s.extract c.2.2 (c.2.2 + c.2.1.size)
  le : c.2.2 + c.2.1.size ≤ s.size
  pos : 0 < c.2.1.size
  kind : 1 ≤ c.1 ∧ c.1 ≤ 4
  from_ : e ≤ c.2.2
  gap : Gap s e c.2.2
structure Stand (s : ByteArray) (cs : List Co) (p : Nat) : Prop where
  all : ∀ k c, cs[k]? = some c → CoOk s (endC (cs.take k)) c
  end_ : endC cs ≤ p
  le : p ≤ s.size
  gap : Gap s (endC cs) p
theorem stand_tok {s : ByteArray} {cs : List Co} {p m : Nat} (kd : Int) (h : Stand s cs p) (h0 : 0 < m) (h1 : p + m ≤ s.size) (hk : 1 ≤ kd ∧ kd ≤ 4) : Stand s (cs ++ [(kd, s.extract p (p + m), p)]) (p + m) := by
  have hz : (s.extract p (p + m)).size = m := by rw [ByteArray.size_extract]; omega
  have he : endC (cs ++ [((kd, s.extract p (p + m), p) : Co)]) = p + m := by rw [endC_app]; show p + (s.extract p (p + m)).size = _; rw [hz]
  refine ⟨fun k c hc => ?_, by omega, h1, by rw [he]; exact gap_refl _ _⟩
  have hlt := (List.getElem?_eq_some_iff.1 hc).1
  rw [List.length_append, List.length_singleton] at hlt
  by_cases hk2 : k < cs.length
  · rw [List.getElem?_append_left hk2] at hc
    rw [List.take_append_of_le_length (by omega)]
    exact h.all k c hc
  · obtain rfl : k = cs.length := by omega
    rw [List.getElem?_append_right (Nat.le_refl _), Nat.sub_self] at hc
    obtain rfl : (kd, s.extract p (p + m), p) = c := by simpa using hc
    rw [List.take_append_of_le_length (Nat.le_refl _), List.take_length]
    refine ⟨?_, ?_, ?_, hk, h.end_, h.gap⟩
    · show s.extract p (p + m) = s.extract p (p + (s.extract p (p + m)).size)
      rw [hz]
    · show p + (s.extract p (p + m)).size ≤ s.size
      rw [hz]; exact h1
    · show 0 < (s.extract p (p + m)).size
      rw [hz]; exact h0
def Stands (s : ByteArray) (st : LS) : Prop := Stand s (st.toks.map Tk.co) st.place
theorem stands_tok {s : ByteArray} {st : LS} {m : Nat} (kd : Nat) (h : Stands s st) (h0 : 0 < m) (h1 : st.place + m ≤ s.size) (hk : 1 ≤ kd ∧ kd ≤ 4) : Stands s (st.tok s kd m) := by
  unfold Stands LS.tok
  simp only [List.map_append, List.map_cons, List.map_nil]
  exact stand_tok kd h h0 h1 (by omega)
theorem stands_del {s : ByteArray} {st : LS} (h : Stands s st) : Stands s st.del := by
  unfold Stands
  rw [del_toks, del_place]
  exact h
theorem line_stands {s : ByteArray} {f : Nat} {st : LS} (h : Stands s st) (he : (lineM s f st).2.1 = 0) : Stands s (lineM s f st).2.2 := by
  refine line_ind (Stands s) ?_ ?_ ?_ ?_ ?_ ?_ ?_ f st h he
  · intro st h hlt hb
    refine ⟨h.all, Nat.le_succ_of_le h.end_, hlt, gap_blank h.gap ?_⟩
    unfold blankB
    rcases Bool.or_eq_true_iff.1 hb with e | e
    · rw [e]; simp
    · rw [e]; simp
  · intro st h hlt hc
    obtain ⟨e1, e2⟩ := cont_bytes h.le hc
    refine ⟨h.all, Nat.le_trans h.end_ (Nat.le_add_right _ _), cont_lt h.le hc, gap_blank (gap_blank h.gap ?_) ?_⟩
    · unfold blankB; rw [e1]; simp
    · unfold blankB; rw [e2]; simp
  · intro st h hlt hc
    exact ⟨h.all, Nat.le_trans h.end_ (Nat.le_of_lt (rem_gt hlt hc).1), (rem_gt hlt hc).2, gap_rem h.gap hc (Nat.le_of_lt (rem_gt hlt hc).1)⟩
  · exact fun st h hlt _ => stands_tok 3 h (by omega) hlt (by omega)
  · exact fun st h hlt _ h5 => stands_tok 2 h h5 (op_le3 h.le) (by omega)
  · exact fun st m h hlt _ _ h0 _ h1 _ _ => stands_tok 4 h h0 h1 (by omega)
  · intro st m h hlt _ _ h0 _ h1 _ _
    exact stands_tok 1 (stands_del h) h0 (by rw [del_place]; exact h1) (by omega)
theorem docs_co {s : ByteArray} : ∀ (ds : List (Nat × Bool)) (ts : List Tk) (i : Nat), i ≤ s.size → (docsM s ds ts i).2.2.1.map Tk.co = ts.map Tk.co ∧ i ≤ (docsM s ds ts i).2.2.2 ∧ (docsM s ds ts i).2.2.2 ≤ s.size
  | [], ts, i, hi => ⟨rfl, Nat.le_refl _, hi⟩
  | d :: ds, ts, i, hi => by
    unfold docsM
    cases ht : ts[d.1]? with
    | none => exact ⟨rfl, Nat.le_refl _, hi⟩
    | some t =>
      have hle := doc_le (s := s) (e := ⟨(unqM t.text).1.toArray⟩) (tabs := d.2) s.size i [] hi
      simp only
      rcases hdoc : docM s ⟨(unqM t.text).1.toArray⟩ d.2 s.size i [] with ⟨_ | l, j⟩
      · rw [hdoc] at hle
        exact ⟨rfl, hle⟩
      · rw [hdoc] at hle
        have ih := docs_co (s := s) ds (ts.set d.1 (t.told ⟨l.toArray⟩ (unqM t.text).2)) j hle.2
        simp only
        refine ⟨?_, Nat.le_trans hle.1 ih.2.1, ih.2.2⟩
        rw [ih.1, List.map_set]
        have h1 : (t.told ⟨l.toArray⟩ (unqM t.text).2).co = t.co := rfl
        rw [h1]
        refine List.ext_getElem? fun k => ?_
        rw [List.getElem?_set]
        split
        · rename_i e
          subst e
          rw [List.getElem?_map, ht]
          have := (List.getElem?_eq_some_iff.1 ht).1
          rw [if_pos (by simpa using this)]
          rfl
        · rfl
/-- What Line answers from a text's beginning stands. -/
theorem top_stands {s : ByteArray} (h : (topM s 0).err = 0) : Stand s ((topM s 0).toks.map Tk.co) (endC ((topM s 0).toks.map Tk.co)) ∧ endC ((topM s 0).toks.map Tk.co) ≤ (topM s 0).next ∧ (topM s 0).next ≤ s.size ∧ s.size ≤ 65536 := by
  have hs : ¬ 65536 < s.size := fun hs => by unfold topM at h; rw [if_pos hs] at h; simp at h
  have ht : topM s 0 = atM s 0 := by unfold topM; rw [if_neg hs, if_neg (by omega)]; rfl
  rw [ht] at h ⊢
  have h0 : Stands s ⟨0, [], []⟩ := ⟨fun k c hc => by simp at hc, Nat.le_refl _, Nat.zero_le _, gap_refl _ _⟩
  have hl := line_stands (f := s.size) h0
  have hz := line_zero s.size ⟨0, [], []⟩ (Nat.zero_le s.size)
  rcases hln : lineM s s.size ⟨0, [], []⟩ with ⟨pl, er, st⟩
  rw [hln] at hl hz
  by_cases he : er = 0
  · subst he
    obtain rfl : pl = 0 := hz rfl
    have hst : Stands s st := hl rfl
    have hdz := docs_zero (s := s) st.dels st.toks st.place
    have hco := docs_co (s := s) st.dels st.toks st.place hst.le
    rcases hd : docsM s st.dels st.toks st.place with ⟨pl, er, ts, j⟩
    rw [hd] at hdz hco
    by_cases he : er = 0
    · subst he
      obtain rfl : pl = 0 := hdz rfl
      rw [at_ok hln hd]
      obtain ⟨c1, c2, c3⟩ := hco
      simp only at c1 c2 c3 ⊢
      rw [c1]
      exact ⟨⟨hst.all, Nat.le_refl _, Nat.le_trans hst.end_ hst.le, gap_refl _ _⟩, Nat.le_trans hst.end_ c2, c3, by omega⟩
    · rw [at_doc hln hd he] at h
      exact absurd h he
  · rw [at_bad hln he] at h
    exact absurd h he
theorem top_bad {s : ByteArray} {i : Int} (h : (topM s i).err ≠ 0) : (topM s i).toks = [] ∧ (topM s i).next = 0 := by
  unfold topM at h ⊢
  split
  · exact ⟨rfl, rfl⟩
  · split
    · exact ⟨rfl, rfl⟩
    · rename_i h1 h2
      rw [if_neg h1, if_neg h2] at h
      unfold atM at h ⊢
      split
      · exact ⟨rfl, rfl⟩
      · rename_i h3
        split
        · exact ⟨rfl, rfl⟩
        · rename_i h4
          rw [if_neg h3, if_neg h4] at h
          exact absurd rfl h
/-- How many tokens there are, and where Line goes on. -/
theorem top_len (s : ByteArray) (i : Int) : (topM s i).toks.length ≤ 65536 ∧ (topM s i).next ≤ 65536 := by
  by_cases hs : 65536 < s.size
  · unfold topM; rw [if_pos hs]; exact ⟨Nat.zero_le _, Nat.zero_le _⟩
  · by_cases hi : i < 0 ∨ (s.size : Int) < i
    · unfold topM; rw [if_neg hs, if_pos hi]; exact ⟨Nat.zero_le _, Nat.zero_le _⟩
    · have ht : topM s i = atM s i.toNat := by unfold topM; rw [if_neg hs, if_neg hi]
      rw [ht]
      have hwf : Wf s ⟨i.toNat, [], []⟩ := ⟨by show i.toNat ≤ s.size; omega, Nat.zero_le _, Nat.le_refl _, (fun d hd => by cases hd), (fun t ht => by cases ht)⟩
      have hl := line_wf (f := s.size) hwf
      have hz := line_zero s.size ⟨i.toNat, [], []⟩ hwf.le
      rcases hln : lineM s s.size ⟨i.toNat, [], []⟩ with ⟨pl, er, st⟩
      rw [hln] at hl hz
      by_cases he : er = 0
      · subst he
        obtain rfl : pl = 0 := hz rfl
        have hst : Wf s st := hl rfl
        have hdz := docs_zero (s := s) st.dels st.toks st.place
        have hco := docs_co (s := s) st.dels st.toks st.place hst.le
        rcases hd : docsM s st.dels st.toks st.place with ⟨pl, er, ts, j⟩
        rw [hd] at hdz hco
        by_cases he : er = 0
        · subst he
          obtain rfl : pl = 0 := hdz rfl
          rw [at_ok hln hd]
          have h1 := congrArg List.length hco.1
          simp only [List.length_map] at h1
          have h2 := hst.toks
          have h3 := hst.le
          have h4 := hco.2.2
          simp only at h1 h4 ⊢
          omega
        · rw [at_doc hln hd he]; exact ⟨Nat.zero_le _, Nat.zero_le _⟩
      · rw [at_bad hln he]; exact ⟨Nat.zero_le _, Nat.zero_le _⟩
end Go.Proofs.YtkakphiofahlgaaDoor
