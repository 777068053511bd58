/- What holds of a line's reader all along. No condition. -/
import Derived.Test.YtnhbcmhinhncfaaGreatDoorLxM
namespace Go.Proofs.YtnhbcmhinhncfaaGreatDoor
open Go.RowKit Go.PlainAid

theorem wEnd_form {s : ByteArray} : ∀ (f e : Nat), e ≤ s.size → (wEnd s f e).err = 0 → (wEnd s f e) = ⟨(wEnd s f e).next, 0, 0⟩
  | 0, e, he, _ => rfl
  | f + 1, e, he, h => by
    by_cases hlt : e < s.size
    · cases h1 : endsM (bt s e)
      · by_cases h2 : (passM (wholeM s 24) s e false).err = 0
        · have hg := pass_good (q := false) hlt (fun _ => whole_good s 24 e false hlt) h2
          rw [wEnd_on hlt h1 rfl h2] at h ⊢
          exact wEnd_form f _ hg.2 h
        · rw [wEnd_bad hlt h1 rfl h2] at h
          exact absurd h h2
      · rw [wEnd_done hlt h1]
    · rw [wEnd_end hlt]
/-- What a word's reading comes to, where it ends well. -/
theorem word_cases {s : ByteArray} {st : LS} (hlt : st.place < s.size) (h1 : endsM (bt s st.place) = false) (h : (wordM s st).2.1 = 0) :
    ∃ m, 0 < m ∧ m ≤ 4096 ∧ st.place + m ≤ s.size ∧ wEnd s s.size st.place = ⟨st.place + m, 0, 0⟩ ∧ (((digsM (s.extract st.place (st.place + m)) && redM s (st.place + m)) = true ∧ wordM s st = (0, 0, st.tok s 4 m)) ∨ ((digsM (s.extract st.place (st.place + m)) && redM s (st.place + m)) = false ∧ wordM s st = (0, 0, st.del.tok s 1 m))) := by
  by_cases he : (wEnd s s.size st.place).err = 0
  · have hf := wEnd_form s.size st.place (by omega) he
    have hk : st.place < (wEnd s s.size st.place).next ∧ (wEnd s s.size st.place).next ≤ s.size := by
      obtain ⟨z, hz⟩ : ∃ z, s.size = z + 1 := ⟨s.size - 1, by omega⟩
      have := wEnd_lt (f := z) hlt h1 (by rw [← hz]; exact he)
      rw [← hz] at this
      exact this
    obtain ⟨m, hm⟩ : ∃ m, (wEnd s s.size st.place).next = st.place + m := ⟨(wEnd s s.size st.place).next - st.place, by omega⟩
    rw [hm] at hf hk
    by_cases hl : 4096 < m
    · rw [word_long hf hl] at h
      simp at h
    · refine ⟨m, by omega, by omega, hk.2, hf, ?_⟩
      cases hd : (digsM (s.extract st.place (st.place + m)) && redM s (st.place + m))
      · exact .inr ⟨rfl, word_word hf hl hd⟩
      · exact .inl ⟨rfl, word_num hf hl hd⟩
  · rw [word_err rfl he] at h
    exact absurd h he
/-- What each step keeps holds of the line. -/
theorem line_ind {s : ByteArray} (P : LS → Prop)
    (hb : ∀ st, P st → st.place < s.size → (bt s st.place == 32 || bt s st.place == 9) = true → P ⟨st.place + 1, st.toks, st.dels⟩)
    (hc : ∀ st, P st → st.place < s.size → contM s st.place = true → P ⟨st.place + 2, st.toks, st.dels⟩)
    (hr : ∀ st, P st → st.place < s.size → (bt s st.place == 35) = true → P ⟨remN s st.place, st.toks, st.dels⟩)
    (hn : ∀ st, P st → st.place < s.size → (bt s st.place == 10) = true → P (st.tok s 3 1))
    (ho : ∀ st, P st → st.place < s.size → (bt s st.place == 35) = false → 0 < opN (s.extract st.place s.size) → P (st.tok s 2 (opN (s.extract st.place s.size))))
    (hm : ∀ st m, P st → st.place < s.size → (bt s st.place == 35) = false → endsM (bt s st.place) = false → 0 < m → m ≤ 4096 → st.place + m ≤ s.size → wEnd s s.size st.place = ⟨st.place + m, 0, 0⟩ → (digsM (s.extract st.place (st.place + m)) && redM s (st.place + m)) = true → P (st.tok s 4 m))
    (hw : ∀ st m, P st → st.place < s.size → (bt s st.place == 35) = false → endsM (bt s st.place) = false → 0 < m → m ≤ 4096 → st.place + m ≤ s.size → wEnd s s.size st.place = ⟨st.place + m, 0, 0⟩ → (digsM (s.extract st.place (st.place + m)) && redM s (st.place + m)) = false → P (st.del.tok s 1 m)) :
    ∀ (f : Nat) (st : LS), P st → (lineM s f st).2.1 = 0 → P (lineM s f st).2.2
  | 0, st, h, _ => h
  | f + 1, st, h, he => by
    have ih := line_ind P hb hc hr hn ho hm hw f
    by_cases hlt : st.place < s.size
    · cases h1 : (bt s st.place == 32 || bt s st.place == 9)
      · cases h2 : contM s st.place
        · cases h3 : (bt s st.place == 35)
          · cases h4 : (bt s st.place == 10)
            · by_cases h5 : 0 < opN (s.extract st.place s.size)
              · rw [line_op hlt h1 h2 h3 h4 h5] at he ⊢
                exact ih _ (ho st h hlt h3 h5) he
              · by_cases h6 : (wordM s st).2.1 = 0
                · rw [line_word hlt h1 h2 h3 h4 h5 h6] at he ⊢
                  have hE := ends_of hlt h1 h4 h5
                  obtain ⟨m, m1, m2, m3, m4, hx⟩ := word_cases hlt hE h6
                  rcases hx with ⟨hx, e⟩ | ⟨hx, e⟩
                  · rw [e] at he ⊢
                    exact ih _ (hm st m h hlt h3 hE m1 m2 m3 m4 hx) he
                  · rw [e] at he ⊢
                    exact ih _ (hw st m h hlt h3 hE m1 m2 m3 m4 hx) he
                · rw [line_bad hlt h1 h2 h3 h4 h5 h6] at he
                  exact absurd he h6
            · rw [line_nl hlt h1 h2 h3 h4]
              exact hn st h hlt h4
          · rw [line_rem hlt h1 h2 h3] at he ⊢
            exact ih _ (hr st h hlt h3) he
        · rw [line_cont hlt h1 h2] at he ⊢
          exact ih _ (hc st h hlt h2) he
      · rw [line_blank hlt h1] at he ⊢
        exact ih _ (hb st h hlt h1) he
    · rw [line_end hlt]; exact h
theorem op_le3 {s : ByteArray} {i : Nat} (hi : i ≤ s.size) : i + opN (s.extract i s.size) ≤ s.size := by
  have := opN_le (s.extract i s.size)
  rw [ByteArray.size_extract] at this
  omega
/-- The numbers of a line's reader. -/
structure Wf (s : ByteArray) (st : LS) : Prop where
  le : st.place ≤ s.size
  toks : st.toks.length ≤ st.place
  dels : st.dels.length ≤ st.toks.length
  del : ∀ d ∈ st.dels, d.1 < st.toks.length
  text : ∀ t ∈ st.toks, t.text.size ≤ s.size
theorem wf_tok {s : ByteArray} {st : LS} {m : Nat} (k : Nat) (h : Wf s st) (h0 : 0 < m) (h1 : st.place + m ≤ s.size) : Wf s (st.tok s k m) := by
  obtain ⟨a, b, c, d, e⟩ := h
  refine ⟨h1, by simp [LS.tok]; omega, by simp [LS.tok]; omega, fun x hx => by simp [LS.tok]; exact Nat.lt_succ_of_lt (d x hx), fun t ht => ?_⟩
  rcases List.mem_append.1 ht with ht | ht
  · exact e t ht
  · obtain rfl := List.mem_singleton.1 ht
    show (s.extract st.place (st.place + m)).size ≤ s.size
    rw [ByteArray.size_extract]; omega
theorem wf_word {s : ByteArray} {st : LS} {m : Nat} (h : Wf s st) (h0 : 0 < m) (h1 : st.place + m ≤ s.size) : Wf s (st.del.tok s 1 m) := by
  have hk := wf_tok 1 h h0 h1
  unfold LS.del
  obtain ⟨a, b, c, d, e⟩ := hk
  have hd : ∀ v : Bool, Wf s ((⟨st.place, st.toks, st.dels ++ [(st.toks.length, v)]⟩ : LS).tok s 1 m) := fun v => by
    refine ⟨a, b, by simp [LS.tok]; exact h.dels, fun x hx => ?_, e⟩
    rcases List.mem_append.1 hx with hx | hx
    · exact d x hx
    · obtain rfl := List.mem_singleton.1 hx
      simp [LS.tok]
  split
  · exact hd false
  · split
    · exact hd true
    · exact ⟨a, b, c, d, e⟩
theorem line_wf {s : ByteArray} {f : Nat} {st : LS} (h : Wf s st) (he : (lineM s f st).2.1 = 0) : Wf s (lineM s f st).2.2 := by
  refine line_ind (Wf s) ?_ ?_ ?_ ?_ ?_ ?_ ?_ f st h he
  · exact fun st h hlt _ => ⟨hlt, Nat.le_succ_of_le h.toks, h.dels, h.del, h.text⟩
  · exact fun st h hlt hc => ⟨cont_lt h.le hc, Nat.le_trans h.toks (Nat.le_add_right _ _), h.dels, h.del, h.text⟩
  · exact fun st h hlt hc => ⟨(rem_gt hlt hc).2, Nat.le_trans h.toks (Nat.le_of_lt (rem_gt hlt hc).1), h.dels, h.del, h.text⟩
  · exact fun st h hlt _ => wf_tok 3 h (by omega) hlt
  · exact fun st h hlt _ h5 => wf_tok 2 h h5 (op_le3 h.le)
  · exact fun st m h hlt _ _ h0 _ h1 _ _ => wf_tok 4 h h0 h1
  · exact fun st m h hlt _ _ h0 _ h1 _ _ => wf_word h h0 h1

/-- What Line answers: the tokens, where it goes on, the place of an error, the error. -/
structure LR where
  toks : List Tk
  next : Nat
  place : Nat
  err : Nat
def atM (s : ByteArray) (i : Nat) : LR :=
  if (lineM s s.size ⟨i, [], []⟩).2.1 ≠ 0 then ⟨[], 0, (lineM s s.size ⟨i, [], []⟩).1, (lineM s s.size ⟨i, [], []⟩).2.1⟩
  else if (docsM s (lineM s s.size ⟨i, [], []⟩).2.2.dels (lineM s s.size ⟨i, [], []⟩).2.2.toks (lineM s s.size ⟨i, [], []⟩).2.2.place).2.1 ≠ 0 then
    ⟨[], 0, (docsM s (lineM s s.size ⟨i, [], []⟩).2.2.dels (lineM s s.size ⟨i, [], []⟩).2.2.toks (lineM s s.size ⟨i, [], []⟩).2.2.place).1, (docsM s (lineM s s.size ⟨i, [], []⟩).2.2.dels (lineM s s.size ⟨i, [], []⟩).2.2.toks (lineM s s.size ⟨i, [], []⟩).2.2.place).2.1⟩
  else ⟨(docsM s (lineM s s.size ⟨i, [], []⟩).2.2.dels (lineM s s.size ⟨i, [], []⟩).2.2.toks (lineM s s.size ⟨i, [], []⟩).2.2.place).2.2.1, (docsM s (lineM s s.size ⟨i, [], []⟩).2.2.dels (lineM s s.size ⟨i, [], []⟩).2.2.toks (lineM s s.size ⟨i, [], []⟩).2.2.place).2.2.2, 0, 0⟩
def topM (s : ByteArray) (i : Int) : LR :=
  if 65536 < s.size then ⟨[], 0, 0, 50⟩ else if i < 0 ∨ (s.size : Int) < i then ⟨[], 0, 0, 73⟩ else atM s i.toNat
section
variable {s : ByteArray} {i : Nat}
theorem at_bad {pl er : Nat} {st : LS} (h : lineM s s.size ⟨i, [], []⟩ = (pl, er, st)) (he : er ≠ 0) : atM s i = ⟨[], 0, pl, er⟩ := by
  unfold atM; rw [h, if_pos he]
theorem at_doc {pl er j : Nat} {st : LS} {ts : List Tk} (h : lineM s s.size ⟨i, [], []⟩ = (0, 0, st)) (hd : docsM s st.dels st.toks st.place = (pl, er, ts, j)) (he : er ≠ 0) : atM s i = ⟨[], 0, pl, er⟩ := by
  unfold atM; rw [h, if_neg (by simp), hd, if_pos he]
theorem at_ok {j : Nat} {st : LS} {ts : List Tk} (h : lineM s s.size ⟨i, [], []⟩ = (0, 0, st)) (hd : docsM s st.dels st.toks st.place = (0, 0, ts, j)) : atM s i = ⟨ts, j, 0, 0⟩ := by
  unfold atM; rw [h, if_neg (by simp), hd, if_neg (by simp)]
end
/-- A line without an error has no place of one. -/
theorem line_zero {s : ByteArray} : ∀ (f : Nat) (st : LS), st.place ≤ s.size → (lineM s f st).2.1 = 0 → (lineM s f st).1 = 0
  | 0, st, _, _ => rfl
  | f + 1, st, hp, he => by
    by_cases hlt : st.place < s.size
    · cases h1 : (bt s st.place == 32 || bt s st.place == 9)
      · cases h2 : contM s st.place
        · cases h3 : (bt s st.place == 35)
          · cases h4 : (bt s st.place == 10)
            · by_cases h5 : 0 < opN (s.extract st.place s.size)
              · rw [line_op hlt h1 h2 h3 h4 h5] at he ⊢
                exact line_zero f _ (op_le3 hp) he
              · by_cases h6 : (wordM s st).2.1 = 0
                · rw [line_word hlt h1 h2 h3 h4 h5 h6] at he ⊢
                  exact line_zero f _ (word_moves hlt (ends_of hlt h1 h4 h5) h6).2.1 he
                · rw [line_bad hlt h1 h2 h3 h4 h5 h6] at he
                  exact absurd he h6
            · rw [line_nl hlt h1 h2 h3 h4]
          · rw [line_rem hlt h1 h2 h3] at he ⊢
            exact line_zero f _ (rem_gt hlt h3).2 he
        · rw [line_cont hlt h1 h2] at he ⊢
          exact line_zero f _ (cont_lt hp h2) he
      · rw [line_blank hlt h1] at he ⊢
        exact line_zero f _ hlt he
    · rw [line_end hlt]
theorem docs_zero {s : ByteArray} : ∀ (ds : List (Nat × Bool)) (ts : List Tk) (i : Nat), (docsM s ds ts i).2.1 = 0 → (docsM s ds ts i).1 = 0
  | [], ts, i, _ => rfl
  | d :: ds, ts, i, h => by
    unfold docsM at h ⊢
    split
    · rfl
    · rename_i t ht
      rw [ht] at h
      simp only at h ⊢
      split
      · rename_i hd
        rw [hd] at h
        simp at h
      · rename_i l hd
        rw [hd] at h
        exact docs_zero ds _ _ h
end Go.Proofs.YtnhbcmhinhncfaaGreatDoor
