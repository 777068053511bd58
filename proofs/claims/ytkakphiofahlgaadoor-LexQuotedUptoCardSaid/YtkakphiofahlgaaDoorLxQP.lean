/- Quoted words with blanks between, read as a line: plain part of LexQuoted. No condition. -/
import Derived.Test.YtkakphiofahlgaaDoorLxQo
import Derived.Test.YtkakphiofahlgaaDoorLxAA
namespace Go.Proofs.YtkakphiofahlgaaDoor
open Go.RowKit Go.PlainAid

section
variable {s : ByteArray} {i : Nat}
theorem drop_bt {c : UInt8} {t : List UInt8} (h : s.data.toList.drop i = c :: t) : i < s.size ∧ bt s i = (c.toNat : Int) ∧ s.data.toList.drop (i + 1) = t := by
  have hl := congrArg List.length h
  rw [List.length_drop, ← Lib.size_eq, List.length_cons] at hl
  have hi : i < s.size := by omega
  obtain ⟨d, d1, d2⟩ := bt_at hi
  have h0 : (s.data.toList.drop i)[0]? = some c := by rw [h]; rfl
  rw [List.getElem?_drop, Nat.add_zero, d1] at h0
  obtain rfl : d = c := by simpa using h0
  refine ⟨hi, d2, ?_⟩
  rw [show i + 1 = i + 1 from rfl, ← List.drop_drop, h]
  rfl
theorem drop_app {l t : List UInt8} (h : s.data.toList.drop i = l ++ t) : s.data.toList.drop (i + l.length) = t := by
  rw [← List.drop_drop, h, List.drop_left]
theorem drop_ext {q t : List UInt8} (h : s.data.toList.drop i = q ++ t) : (s.extract i (i + q.length)).data.toList = q := by
  rw [Lib.extract_data, show i + q.length - i = q.length by omega, h, List.take_left]
theorem ext_all : (s.extract i s.size).data.toList = s.data.toList.drop i := by
  rw [Lib.extract_data, List.take_of_length_le (by rw [List.length_drop, ← Lib.size_eq]; exact Nat.le_refl _)]
theorem wE_step {e e2 : Nat} {R : R3} (hi : e < s.size) (hc : endsM (bt s e) = false) (hp : passM (wholeM s 24) s e false = ⟨e2, 0, 0⟩) (he : e < e2) (h : ∀ f, s.size ≤ e2 + f → wEnd s f e2 = R) : ∀ f, s.size ≤ e + f → wEnd s f e = R
  | 0, hf => absurd hi (by omega)
  | f + 1, hf => by rw [wEnd_on hi hc hp rfl]; exact h f (by show s.size ≤ e2 + f; omega)
end
/-- A byte that a word goes over as it stands. -/
def plainC (n : Int) : Bool := !(endsM n) && n != 92 && n != 96 && n != 39 && n != 34 && n != 36 && n != 35
def safeC (c : Int) : Bool := letB c || digB c || !decide (idx c < 0)
theorem safe_plain : ∀ n : Nat, n < 256 → safeC (n : Int) = true → plainC (n : Int) = true := by decide +kernel
theorem plain_facts {n : Int} (h : plainC n = true) : endsM n = false ∧ (n == 92) = false ∧ (n == 96) = false ∧ (n == 39) = false ∧ (n == 34) = false ∧ (n == 36) = false ∧ (n == 35) = false := by
  unfold plainC at h
  simpa [and_assoc] using h
section
variable {s : ByteArray}
theorem pass_plain {e : Nat} (h : plainC (bt s e) = true) (wh : Nat → Bool → R3) : passM wh s e false = ⟨e + 1, 0, 0⟩ := by
  obtain ⟨_, h1, h2, h3, h4, h5, _⟩ := plain_facts h
  unfold passM begM
  simp only [h1, h2, h3, h4, h5, Bool.false_eq_true, if_false]
theorem wE_done {e : Nat} (hi : e < s.size) (hc : endsM (bt s e) = true) (f : Nat) : wEnd s f e = ⟨e, 0, 0⟩ := wEnd_done hi hc
theorem wE_plain : ∀ (r : List UInt8) (e : Nat) (post : List UInt8), (∀ c ∈ r, plainC (c.toNat : Int) = true) → s.data.toList.drop e = r ++ 9 :: post → ∀ f, s.size ≤ e + f → wEnd s f e = ⟨e + r.length, 0, 0⟩
  | [], e, post, _, hd, f, _ => by
    obtain ⟨h1, h2, _⟩ := drop_bt hd
    exact wE_done h1 (by rw [h2]; decide) f
  | c :: r, e, post, hc, hd, f, hf => by
    obtain ⟨h1, h2, h3⟩ := drop_bt hd
    have hp := hc c (List.mem_cons_self ..)
    rw [← h2] at hp
    have := wE_step h1 (plain_facts hp).1 (pass_plain hp _) (Nat.lt_succ_self e) (wE_plain r (e + 1) post (fun x hx => hc x (List.mem_cons_of_mem _ hx)) h3) f hf
    rw [this, List.length_cons]
    congr 1
    omega
theorem qm_plain {p : List UInt8} (h : ∀ c ∈ p, c ≠ 39) (r : List UInt8) : qm (p ++ r) = p ++ qm r := by
  induction p with
  | nil => rfl
  | cons a p ih =>
    rw [List.cons_append, qm, if_neg (h a (List.mem_cons_self ..)), ih (fun c hc => h c (List.mem_cons_of_mem _ hc))]
    rfl
theorem indexByte_at {p r : List UInt8} {c : UInt8} (h : ∀ x ∈ p, x ≠ c) : Lib.indexByte (p ++ c :: r) c = p.length := by
  induction p with
  | nil => simp [Lib.indexByte]
  | cons a p ih =>
    have ha : a ≠ c := h a (List.mem_cons_self ..)
    have hi := ih (fun x hx => h x (List.mem_cons_of_mem _ hx))
    rw [List.cons_append, Lib.indexByte, if_neg (by simpa using ha), hi]
    have : ((p.length : Int) == -1) = false := by rw [beq_eq_false_iff_ne]; omega
    rw [this]
    simp
theorem split_39 : ∀ r : List UInt8, (∀ c ∈ r, c ≠ 39) ∨ ∃ p r', r = p ++ 39 :: r' ∧ ∀ c ∈ p, c ≠ 39
  | [] => .inl (fun c h => by cases h)
  | a :: r => by
    by_cases ha : a = 39
    · subst ha; exact .inr ⟨[], r, rfl, fun c h => by cases h⟩
    · rcases split_39 r with h | ⟨p, r', rfl, h⟩
      · exact .inl (fun c hc => by
          rcases List.mem_cons.1 hc with rfl | hc
          · exact ha
          · exact h c hc)
      · exact .inr ⟨a :: p, r', rfl, fun c hc => by
          rcases List.mem_cons.1 hc with rfl | hc
          · exact ha
          · exact h c hc⟩
theorem pass_quote {e : Nat} {p t : List UInt8} (hp : ∀ c ∈ p, c ≠ 39) (hd : s.data.toList.drop e = 39 :: (p ++ 39 :: t)) : passM (wholeM s 24) s e false = ⟨e + p.length + 2, 0, 0⟩ := by
  obtain ⟨h1, h2, h3⟩ := drop_bt hd
  have h2' : bt s e = 39 := h2
  have hq : qIdx s e = p.length := by
    unfold qIdx
    rw [ext_all, h3]
    exact indexByte_at hp
  have e92 : (bt s e == 92) = false := by rw [h2']; decide
  have e96 : (bt s e == 96) = false := by rw [h2']; decide
  have e39 : (bt s e == 39) = true := by rw [h2']; decide
  unfold passM begM
  simp only [e92, e96, e39, Bool.false_eq_true, if_false, if_true, Bool.not_false]
  unfold wholeM
  simp only [e39, if_true]
  unfold sqM
  rw [hq, if_pos (by omega)]
  simp only [R3.mk.injEq, and_true, Int.toNat_natCast]
  omega
theorem wE_quote : ∀ (n : Nat) (r : List UInt8) (e : Nat) (post : List UInt8), r.length ≤ n → s.data.toList.drop e = 39 :: (qm r ++ 39 :: 9 :: post) → ∀ f, s.size ≤ e + f → wEnd s f e = ⟨e + (qm r).length + 2, 0, 0⟩
  | n, r, e, post, hn, hd, f, hf => by
    obtain ⟨h1, h2, _⟩ := drop_bt hd
    have hend : endsM (bt s e) = false := by rw [h2]; decide
    rcases split_39 r with h | ⟨p, r', rfl, hp⟩
    · have hq : qm r = r := by have := qm_plain h []; rw [List.append_nil] at this; rw [this]; simp [qm]
      rw [hq] at hd ⊢
      have hd9 : s.data.toList.drop (e + (39 :: (r ++ [39])).length) = 9 :: post := drop_app (by rw [hd]; simp)
      have he : e + (39 :: (r ++ [39])).length = e + r.length + 2 := by simp; omega
      rw [he] at hd9
      obtain ⟨g1, g2, _⟩ := drop_bt hd9
      exact wE_step h1 hend (pass_quote h hd) (by omega) (fun f _ => wE_done g1 (by rw [g2]; decide) f) f hf
    · have hq : qm (p ++ 39 :: r') = p ++ [39, 92, 39, 39] ++ qm r' := by rw [qm_plain hp, qm, if_pos rfl, List.append_assoc]
      rw [hq] at hd ⊢
      have hd0 : s.data.toList.drop e = 39 :: (p ++ 39 :: (92 :: 39 :: 39 :: (qm r' ++ 39 :: 9 :: post))) := by rw [hd]; simp
      have hd1 : s.data.toList.drop (e + (39 :: (p ++ [39])).length) = 92 :: 39 :: 39 :: (qm r' ++ 39 :: 9 :: post) := drop_app (by rw [hd0]; simp)
      have he1 : e + (39 :: (p ++ [39])).length = e + p.length + 2 := by simp; omega
      rw [he1] at hd1
      obtain ⟨g1, g2, g3⟩ := drop_bt hd1
      obtain ⟨g4, _, g5⟩ := drop_bt g3
      have hp92 : passM (wholeM s 24) s (e + p.length + 2) false = ⟨e + p.length + 4, 0, 0⟩ := by
        have e92 : (bt s (e + p.length + 2) == 92) = true := by rw [g2]; decide
        unfold passM
        simp only [e92, if_true, R3.mk.injEq, and_true]
        omega
      have ih : ∀ f, s.size ≤ e + p.length + 4 + f → wEnd s f (e + p.length + 4) = ⟨e + p.length + 4 + (qm r').length + 2, 0, 0⟩ := by
        match n, hn with
        | 0, hn => simp at hn
        | n + 1, hn => exact wE_quote n r' (e + p.length + 4) post (by simp at hn; omega) g5
      have hl : (p ++ [39, 92, 39, 39] ++ qm r').length = p.length + 4 + (qm r').length := by simp; omega
      rw [hl]
      have := wE_step h1 hend (pass_quote hp hd0) (by omega) (wE_step g1 (by rw [g2]; decide) hp92 (by omega) ih) f hf
      rw [this]
      congr 1
      omega
end
/-- A text as Quote gives it. -/
def quoteM (t : ByteArray) : ByteArray := if isSafe t then t else quoted t
/-- What a line wants of a word that stands between blanks. -/
structure QWord (q : ByteArray) : Prop where
  head : ∃ c l, q.data.toList = c :: l ∧ endsM (c.toNat : Int) = false ∧ ((c.toNat : Int) == 92) = false ∧ ((c.toNat : Int) == 35) = false
  ends : ∀ (s : ByteArray) (e : Nat) (post : List UInt8), s.data.toList.drop e = q.data.toList ++ 9 :: post → ∀ f, s.size ≤ e + f → wEnd s f e = ⟨e + q.size, 0, 0⟩
theorem quoteM_word (t : ByteArray) : QWord (quoteM t) := by
  unfold quoteM
  cases hs : isSafe t
  · rw [if_neg (by decide)]
    have hq : (quoted t).data.toList = 39 :: (qm t.data.toList ++ [39]) := by
      unfold quoted qmS
      rw [ByteArray.data_append, ByteArray.data_append, Array.toList_append, Array.toList_append]
      simp
    refine ⟨⟨39, _, hq, by decide, by decide, by decide⟩, fun s e post hd f hf => ?_⟩
    rw [hq] at hd
    have := wE_quote t.data.toList.length t.data.toList e post (Nat.le_refl _) (by rw [hd]; simp) f hf
    rw [this, Lib.size_eq, hq]
    simp only [R3.mk.injEq, and_true, List.length_cons, List.length_append, List.length_nil]
    omega
  · rw [if_pos rfl]
    have hall : t.size ≠ 0 ∧ ∀ k, k < t.size → safeOk t k = true := by
      unfold isSafe at hs
      rw [Bool.and_eq_true, decide_eq_true_iff, decide_eq_true_iff] at hs
      exact hs
    have hc : ∀ c ∈ t.data.toList, plainC (c.toNat : Int) = true := fun c hm => by
      obtain ⟨k, hk⟩ := List.mem_iff_getElem?.1 hm
      have hlt : k < t.size := by rw [Lib.size_eq]; exact (List.getElem?_eq_some_iff.1 hk).1
      obtain ⟨d, d1, d2⟩ := bt_at hlt
      rw [hk] at d1
      obtain rfl : c = d := by simpa using d1
      have h9 := hall.2 k hlt
      unfold safeOk at h9
      rw [d2] at h9
      exact safe_plain c.toNat c.toNat_lt h9
    refine ⟨?_, fun s e post hd f hf => ?_⟩
    · cases hl : t.data.toList with
      | nil => exfalso; have := Lib.size_eq t; rw [hl] at this; exact hall.1 this
      | cons c l =>
        have := plain_facts (hc c (by rw [hl]; exact List.mem_cons_self ..))
        exact ⟨c, l, rfl, this.1, this.2.1, this.2.2.2.2.2.2⟩
    · rw [Lib.size_eq]
      exact wE_plain t.data.toList e post hc hd f hf
theorem op_ends {s : ByteArray} {i : Nat} {c : UInt8} {t : List UInt8} (hd : s.data.toList.drop i = c :: t) (h : endsM (c.toNat : Int) = false) : opN (s.extract i s.size) = 0 := by
  have key : ∀ n, opFrom (s.extract i s.size) n = 0 := by
    intro n
    induction n with
    | zero => rfl
    | succ n ih =>
      have hno : isOp ((s.extract i s.size).extract 0 (n + 1)) = false := by
        have hx : ((s.extract i s.size).extract 0 (n + 1)).data.toList = c :: t.take n := by
          rw [Lib.extract_data, List.drop_zero, Nat.sub_zero, ext_all, hd, List.take_succ_cons]
        unfold isOp
        rw [hx]
        cases hc : opsL.contains (c :: t.take n)
        · rfl
        · exfalso
          have hm := List.contains_iff_mem.1 hc
          have hall : ∀ l ∈ opsL, ∀ d, l.head? = some d → endsM (d.toNat : Int) = true := by decide +kernel
          have := hall _ hm c rfl
          rw [h] at this
          cases this
      rw [opFrom, hno, if_neg (by decide)]
      exact ih
  exact key _
/-- The words with a blank ahead and a tab behind each. -/
def segL (q : ByteArray) : List UInt8 := 32 :: (q.data.toList ++ [9])
/-- The tokens of such words. -/
def qtoks : Nat → List ByteArray → List Tk
  | _, [] => []
  | i, q :: l => ⟨1, q, i + 1, ⟨#[]⟩, false⟩ :: qtoks (i + q.size + 2) l
theorem qtoks_len : ∀ (i : Nat) (l : List ByteArray), (qtoks i l).length = l.length
  | _, [] => rfl
  | i, q :: l => by rw [qtoks, List.length_cons, qtoks_len, List.length_cons]
theorem qtoks_get : ∀ (i : Nat) (l : List ByteArray) (k : Nat) (q : ByteArray), l[k]? = some q → ∃ t, (qtoks i l)[k]? = some t ∧ t.kind = 1 ∧ t.text = q
  | _, [], k, q, h => by simp at h
  | i, a :: l, 0, q, h => by
    obtain rfl : a = q := by simpa using h
    exact ⟨_, rfl, rfl, rfl⟩
  | i, a :: l, k + 1, q, h => qtoks_get (i + a.size + 2) l k q (by simpa using h)
theorem last_one {ts : List Tk} (h : ∀ t ∈ ts, t.kind = 1) : lastM ts = ⟨#[]⟩ := by
  unfold lastM
  cases hl : ts.getLast? with
  | none => rfl
  | some t =>
    have := h t (List.mem_of_getLast? hl)
    simp [this]
theorem del_one {st : LS} (h : ∀ t ∈ st.toks, t.kind = 1) : st.del = st := by
  unfold LS.del
  rw [last_one h, if_neg (by rw [ByteArray.toList_eq]; decide), if_neg (by rw [ByteArray.toList_eq]; decide)]
theorem line_quoted {s : ByteArray} (l : List ByteArray) : ∀ (i : Nat) (ts : List Tk) (f : Nat), (∀ q ∈ l, QWord q ∧ q.size ≤ 4096) → (∀ t ∈ ts, t.kind = 1) → s.data.toList.drop i = l.flatMap segL → i ≤ s.size → s.size ≤ i + f → lineM s f ⟨i, ts, []⟩ = (0, 0, ⟨s.size, ts ++ qtoks i l, []⟩) := by
  induction l with
  | nil =>
    intro i ts f _ _ hd hi _
    have hlen := congrArg List.length hd
    rw [List.length_drop, ← Lib.size_eq] at hlen
    have he : i = s.size := by simp at hlen; omega
    subst he
    rw [line_end (st := ⟨s.size, ts, []⟩) (by show ¬ s.size < s.size; omega), qtoks, List.append_nil]
  | cons q l ih =>
    intro i ts f hq ht hd hi hf
    obtain ⟨⟨⟨c, ql, hql, c1, c2, c3⟩, hends⟩, hsz⟩ := hq q (List.mem_cons_self ..)
    have hqs : q.size = ql.length + 1 := by rw [Lib.size_eq, hql]; rfl
    have hd0 : s.data.toList.drop i = 32 :: (q.data.toList ++ 9 :: l.flatMap segL) := by rw [hd, List.flatMap_cons]; simp [segL]
    obtain ⟨a1, a2, a3⟩ := drop_bt hd0
    have hd1 := a3
    rw [hql, List.cons_append] at a3
    obtain ⟨b1, b2, _⟩ := drop_bt a3
    have hd2 : s.data.toList.drop (i + 1 + q.size) = 9 :: l.flatMap segL := by
      have := drop_app hd1
      rw [← Lib.size_eq] at this
      exact this
    obtain ⟨g1, g2, g3⟩ := drop_bt hd2
    obtain ⟨f3, rfl⟩ : ∃ g, f = g + 3 := ⟨f - 3, by omega⟩
    have hw : wEnd s s.size (i + 1) = ⟨i + 1 + q.size, 0, 0⟩ := hends s (i + 1) _ hd1 s.size (by omega)
    have e1 : (bt s (i + 1) == 32 || bt s (i + 1) == 9) = false := by
      rw [b2]
      unfold endsM endsL at c1
      simp only [List.any_cons, List.any_nil, Bool.or_eq_false_iff] at c1
      rw [c1.1, c1.2.1]; rfl
    have e10 : (bt s (i + 1) == 10) = false := by
      rw [b2]
      unfold endsM endsL at c1
      simp only [List.any_cons, List.any_nil, Bool.or_eq_false_iff] at c1
      exact c1.2.2.1
    have ec : contM s (i + 1) = false := by
      cases hc : contM s (i + 1)
      · rfl
      · have := (cont_bytes (by omega) hc).1
        rw [b2, c2] at this
        cases this
    have eo : ¬ 0 < opN (s.extract (i + 1) s.size) := by rw [op_ends a3 c1]; exact Nat.lt_irrefl 0
    have ewd : wordM s ⟨i + 1, ts, []⟩ = (0, 0, ⟨i + 1 + q.size, ts ++ [⟨1, q, i + 1, ⟨#[]⟩, false⟩], []⟩) := by
      have hred : (digsM (s.extract (i + 1) (i + 1 + q.size)) && redM s (i + 1 + q.size)) = false := by
        have : redM s (i + 1 + q.size) = false := by
          unfold redM
          rw [g2]
          simp
        rw [this, Bool.and_false]
      rw [word_word (st := ⟨i + 1, ts, []⟩) (m := q.size) hw (by omega) hred, del_one ht]
      unfold LS.tok
      have hx : s.extract (i + 1) (i + 1 + q.size) = q := ba_data (by
        have := drop_ext hd1
        rw [← Lib.size_eq] at this
        exact this)
      simp only [hx]
      rfl
    rw [line_blank (st := ⟨i, ts, []⟩) (f := f3 + 2) a1 (by show (bt s i == 32 || bt s i == 9) = true; rw [a2]; decide)]
    rw [line_word (st := ⟨i + 1, ts, []⟩) (f := f3 + 1) b1 e1 ec (by show (bt s (i + 1) == 35) = false; rw [b2]; exact c3) e10 eo (by rw [ewd]), ewd]
    have hb9 : (bt s (i + 1 + q.size) == 32 || bt s (i + 1 + q.size) == 9) = true := by rw [g2]; decide
    obtain ⟨ts2, hts2⟩ : ∃ x, ts ++ [(⟨1, q, i + 1, ⟨#[]⟩, false⟩ : Tk)] = x := ⟨_, rfl⟩
    obtain ⟨j, hj⟩ : ∃ x, i + 1 + q.size = x := ⟨_, rfl⟩
    rw [hts2, hj]
    rw [hj] at g1 g3 hb9
    refine (line_blank (s := s) (st := ⟨j, ts2, []⟩) (f := f3) g1 hb9).trans ?_
    have := ih (j + 1) ts2 f3 (fun x hx => hq x (List.mem_cons_of_mem _ hx)) (fun t h => by
      rw [← hts2] at h
      rcases List.mem_append.1 h with h | h
      · exact ht t h
      · rw [List.mem_singleton.1 h]) g3 (by omega) (by omega)
    refine this.trans ?_
    rw [qtoks, ← hts2, List.append_assoc, show j + 1 = i + q.size + 2 by omega]
    rfl
/-- The law's plain part. -/
theorem top_quoted {s : ByteArray} {l : List ByteArray} (hd : s.data.toList = l.flatMap segL) (hs : s.size ≤ 4000) (hq : ∀ q ∈ l, QWord q) : topM s 0 = ⟨qtoks 0 l, s.size, 0, 0⟩ := by
  have hsz : ∀ q ∈ l, q.size ≤ 4096 := fun q hm => by
    have h1 : (segL q).length ≤ (l.flatMap segL).length := (List.sublist_flatten_of_mem (List.mem_map_of_mem hm)).length_le
    rw [← hd, ← Lib.size_eq] at h1
    have h2 : (segL q).length = q.size + 2 := by unfold segL; rw [List.length_cons, List.length_append, ← Lib.size_eq]; rfl
    omega
  have ht : topM s 0 = atM s 0 := by unfold topM; rw [if_neg (by omega), if_neg (by omega)]; rfl
  have hln := line_quoted l 0 [] s.size (fun q hm => ⟨hq q hm, hsz q hm⟩) (fun t h => by cases h) (by rw [List.drop_zero]; exact hd) (Nat.zero_le _) (by omega)
  rw [List.nil_append] at hln
  rw [ht]
  exact at_ok hln rfl
end Go.Proofs.YtkakphiofahlgaaDoor
