/- A line, as a plain function. No condition. -/
import Derived.Test.YtnhbcmhinhncfaaGreatDoorLxE
namespace Go.Proofs.YtnhbcmhinhncfaaGreatDoor
open Go.RowKit Go.PlainAid
attribute [local go_sem] Oper.semAt_some

theorem wEnd_le {s : ByteArray} : ∀ (f e : Nat), e ≤ s.size → (wEnd s f e).err = 0 → e ≤ (wEnd s f e).next ∧ (wEnd s f e).next ≤ s.size
  | 0, e, he, _ => ⟨Nat.le_refl _, he⟩
  | f + 1, e, he, h => by
    unfold wEnd at h ⊢
    split at h
    · rename_i hlt
      rw [if_pos hlt]
      split at h
      · rename_i h1; rw [if_pos h1]; exact ⟨Nat.le_refl _, he⟩
      · rename_i h1
        rw [if_neg h1]
        split at h
        · rename_i h2
          rw [if_pos h2]
          have hg := pass_good (q := false) hlt (fun _ => whole_good s 24 e false hlt) h2
          have := wEnd_le f _ hg.2 h
          omega
        · rename_i h2; exact absurd h h2
    · rename_i hlt; rw [if_neg hlt]; exact ⟨Nat.le_refl _, he⟩
theorem wEnd_lt {s : ByteArray} {f e : Nat} (hlt : e < s.size) (h1 : endsM (bt s e) = false) (h : (wEnd s (f + 1) e).err = 0) : e < (wEnd s (f + 1) e).next ∧ (wEnd s (f + 1) e).next ≤ s.size := by
  by_cases h2 : (passM (wholeM s 24) s e false).err = 0
  · have hg := pass_good (q := false) hlt (fun _ => whole_good s 24 e false hlt) h2
    rw [wEnd_on hlt h1 rfl h2] at h ⊢
    have := wEnd_le f _ hg.2 h
    omega
  · rw [wEnd_bad hlt h1 rfl h2] at h
    exact absurd h h2
theorem del_len (st : LS) : st.del.dels.length ≤ st.dels.length + 1 := by
  unfold LS.del; split
  · simp
  · split
    · simp
    · omega
theorem word_moves {s : ByteArray} {st : LS} (hlt : st.place < s.size) (h1 : endsM (bt s st.place) = false) (h : (wordM s st).2.1 = 0) :
    st.place < (wordM s st).2.2.place ∧ (wordM s st).2.2.place ≤ s.size ∧ (wordM s st).2.2.toks.length = st.toks.length + 1 ∧ (wordM s st).2.2.dels.length ≤ st.dels.length + 1 := by
  obtain ⟨r, hr⟩ : ∃ r, wEnd s s.size st.place = r := ⟨_, rfl⟩
  have hl := del_len st
  unfold wordM at h ⊢
  rw [hr] at h ⊢
  by_cases he : r.err = 0
  · have hk : st.place < r.next ∧ r.next ≤ s.size := by
      obtain ⟨z, hz⟩ : ∃ z, s.size = z + 1 := ⟨s.size - 1, by omega⟩
      rw [← hr, hz]
      have := wEnd_lt (f := z) hlt h1 (by rw [← hz, hr]; exact he)
      omega
    rw [if_neg (by simp [he])] at h ⊢
    split at h
    · simp at h
    · rename_i h3
      rw [if_neg h3]
      split
      · simp [LS.tok]; omega
      · simp [LS.tok, del_place, del_toks]; omega
  · rw [if_pos he] at h; exact absurd h he
theorem opFrom_pos {t : ByteArray} (h : isOp (t.extract 0 1) = true) : ∀ n, 1 ≤ n → opFrom t n ≠ 0
  | 0, h0 => absurd h0 (by omega)
  | 1, _ => by unfold opFrom; rw [show (0 : Nat) + 1 = 1 from rfl, if_pos h]; omega
  | n + 2, _ => by
    unfold opFrom
    split
    · omega
    · exact opFrom_pos h (n + 1) (by omega)

/-- A line goes on behind a backslash and a byte 10. -/
def contM (s : ByteArray) (i : Nat) : Bool := Lib.hasPrefix (s.extract i s.size).data.toList [92, 10]
theorem cont_lt {s : ByteArray} {i : Nat} (hi : i ≤ s.size) (h : contM s i = true) : i + 2 ≤ s.size := by
  have h2 := (List.isPrefixOf_iff_prefix.1 h).length_le
  have len : (s.extract i s.size).data.toList.length = s.size - i := by
    rw [← Lib.size_eq, ByteArray.size_extract]; omega
  rw [len] at h2
  simp at h2
  omega
/-- The line's tokens: the place of an error, the error, what is held then. -/
def lineM (s : ByteArray) : Nat → LS → Nat × Nat × LS
  | 0, st => (0, 0, st)
  | f + 1, st => if st.place < s.size then
      (if bt s st.place == 32 || bt s st.place == 9 then lineM s f ⟨st.place + 1, st.toks, st.dels⟩
       else if contM s st.place then lineM s f ⟨st.place + 2, st.toks, st.dels⟩
       else if bt s st.place == 35 then lineM s f ⟨remN s st.place, st.toks, st.dels⟩
       else if bt s st.place == 10 then (0, 0, st.tok s 3 1)
       else if 0 < opN (s.extract st.place s.size) then lineM s f (st.tok s 2 (opN (s.extract st.place s.size)))
       else if (wordM s st).2.1 = 0 then lineM s f (wordM s st).2.2 else wordM s st)
    else (0, 0, st)
section
variable {s : ByteArray} {f : Nat} {st : LS}
theorem line_end (h : ¬ st.place < s.size) : lineM s f st = (0, 0, st) := by
  cases f with
  | zero => rfl
  | succ f => rw [lineM, if_neg h]
theorem line_blank (h : st.place < s.size) (h1 : (bt s st.place == 32 || bt s st.place == 9) = true) : lineM s (f + 1) st = lineM s f ⟨st.place + 1, st.toks, st.dels⟩ := by
  rw [lineM, if_pos h, h1, if_pos rfl]
theorem line_cont (h : st.place < s.size) (h1 : (bt s st.place == 32 || bt s st.place == 9) = false) (h2 : contM s st.place = true) : lineM s (f + 1) st = lineM s f ⟨st.place + 2, st.toks, st.dels⟩ := by
  rw [lineM, if_pos h, h1, if_neg (by decide), h2, if_pos rfl]
theorem line_rem (h : st.place < s.size) (h1 : (bt s st.place == 32 || bt s st.place == 9) = false) (h2 : contM s st.place = false) (h3 : (bt s st.place == 35) = true) : lineM s (f + 1) st = lineM s f ⟨remN s st.place, st.toks, st.dels⟩ := by
  rw [lineM, if_pos h, h1, if_neg (by decide), h2, if_neg (by decide), h3, if_pos rfl]
theorem line_nl (h : st.place < s.size) (h1 : (bt s st.place == 32 || bt s st.place == 9) = false) (h2 : contM s st.place = false) (h3 : (bt s st.place == 35) = false) (h4 : (bt s st.place == 10) = true) : lineM s (f + 1) st = (0, 0, st.tok s 3 1) := by
  rw [lineM, if_pos h, h1, if_neg (by decide), h2, if_neg (by decide), h3, if_neg (by decide), h4, if_pos rfl]
theorem line_op (h : st.place < s.size) (h1 : (bt s st.place == 32 || bt s st.place == 9) = false) (h2 : contM s st.place = false) (h3 : (bt s st.place == 35) = false) (h4 : (bt s st.place == 10) = false) (h5 : 0 < opN (s.extract st.place s.size)) : lineM s (f + 1) st = lineM s f (st.tok s 2 (opN (s.extract st.place s.size))) := by
  rw [lineM, if_pos h, h1, if_neg (by decide), h2, if_neg (by decide), h3, if_neg (by decide), h4, if_neg (by decide), if_pos h5]
theorem line_word (h : st.place < s.size) (h1 : (bt s st.place == 32 || bt s st.place == 9) = false) (h2 : contM s st.place = false) (h3 : (bt s st.place == 35) = false) (h4 : (bt s st.place == 10) = false) (h5 : ¬ 0 < opN (s.extract st.place s.size)) (h6 : (wordM s st).2.1 = 0) : lineM s (f + 1) st = lineM s f (wordM s st).2.2 := by
  rw [lineM, if_pos h, h1, if_neg (by decide), h2, if_neg (by decide), h3, if_neg (by decide), h4, if_neg (by decide), if_neg h5, if_pos h6]
theorem line_bad (h : st.place < s.size) (h1 : (bt s st.place == 32 || bt s st.place == 9) = false) (h2 : contM s st.place = false) (h3 : (bt s st.place == 35) = false) (h4 : (bt s st.place == 10) = false) (h5 : ¬ 0 < opN (s.extract st.place s.size)) (h6 : ¬ (wordM s st).2.1 = 0) : lineM s (f + 1) st = wordM s st := by
  rw [lineM, if_pos h, h1, if_neg (by decide), h2, if_neg (by decide), h3, if_neg (by decide), h4, if_neg (by decide), if_neg h5, if_neg h6]
end
def b9 (s : ByteArray) (i : Nat) : UInt8 := if h : i < s.size then s[i]'h else 0
theorem first_byte {s : ByteArray} {i : Nat} (h : i < s.size) : ((s.extract i s.size).extract 0 1).data.toList = [b9 s i] := by
  rw [Lib.extract_data, Lib.extract_data]
  simp only [List.drop_zero]
  rw [List.drop_eq_getElem_cons (by rw [← Lib.size_eq]; exact h)]
  rw [show s.size - i = (s.size - i - 1) + 1 by omega, List.take_succ_cons]
  simp [b9, h]
  rfl
theorem ops_of : ∀ n : Nat, n < 256 → endsM (n : Int) = true → (((n : Int) == 32) || ((n : Int) == 9)) = false → ((n : Int) == 10) = false → opsL.contains [UInt8.ofNat n] = true := by decide +kernel
/-- Where no operator begins and no blank stands, a word goes on. -/
theorem ends_of {s : ByteArray} {i : Nat} (h : i < s.size) (h1 : (bt s i == 32 || bt s i == 9) = false) (h4 : (bt s i == 10) = false) (h5 : ¬ 0 < opN (s.extract i s.size)) : endsM (bt s i) = false := by
  cases hE : endsM (bt s i)
  · rfl
  · exfalso
    have hsz : 1 ≤ (s.extract i s.size).size := by rw [ByteArray.size_extract]; omega
    apply h5
    refine Nat.pos_of_ne_zero (opFrom_pos ?_ _ (by omega))
    unfold isOp
    rw [first_byte h]
    have hbt : bt s i = ((b9 s i).toNat : Int) := by unfold bt b9; rw [dif_pos h, dif_pos h]
    rw [hbt] at hE h1 h4
    have hc : b9 s i = UInt8.ofNat (b9 s i).toNat := UInt8.ofNat_toNat.symm
    have hn : (b9 s i).toNat < 256 := (b9 s i).toNat_lt
    rw [hc]
    generalize (b9 s i).toNat = n at hE h1 h4 hn
    exact ops_of n hn hE h1 h4
end Go.Proofs.YtnhbcmhinhncfaaGreatDoor
