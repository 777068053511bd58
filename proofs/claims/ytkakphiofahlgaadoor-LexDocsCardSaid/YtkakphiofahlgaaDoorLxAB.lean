/- What a line is read as hangs on its own bytes. No condition. -/
import Derived.Test.YtkakphiofahlgaaDoorLxAA
namespace Go.Proofs.YtkakphiofahlgaaDoor
open Go.RowKit Go.PlainAid

theorem no_op {x : ByteArray} (h : (10 : UInt8) ∈ x.data.toList) : isOp x = false := by
  unfold isOp
  cases hc : opsL.contains x.data.toList
  · rfl
  · exfalso
    have hm := List.contains_iff_mem.1 hc
    have hall : ∀ l ∈ opsL, (10 : UInt8) ∉ l := by decide
    exact hall _ hm h
theorem op_nl {t : ByteArray} {d : Nat} (h : t.data.toList[d]? = some 10) : ∀ n, opFrom t n = opFrom t (min n d)
  | 0 => by rw [Nat.zero_min]
  | n + 1 => by
    by_cases hn : n + 1 ≤ d
    · rw [Nat.min_eq_left hn]
    · rw [opFrom, no_op, if_neg (by decide), op_nl h n, Nat.min_eq_right (by omega : d ≤ n), Nat.min_eq_right (by omega : d ≤ n + 1)]
      rw [Lib.extract_data]
      refine List.mem_of_getElem? (i := d) ?_
      rw [List.getElem?_take, if_pos (by omega), List.drop_zero]
      exact h
section
variable {s z : ByteArray} {A M : Nat}
theorem op_agr (h : Agr s z A M) {p : Nat} (hp : p < M) : opN (z.extract (A + p) z.size) = opN (s.extract p s.size) := by
  have e1 := h.hs
  have e2 := h.hz
  obtain ⟨d, hd⟩ : ∃ d, M - 1 = p + d := ⟨M - 1 - p, by omega⟩
  obtain ⟨c, c1, c2⟩ := bt_at (s := s) (i := p + d) (by omega)
  have c3 : c = 10 := by
    have := h.nl
    rw [hd, c2] at this
    exact UInt8.toNat_inj.1 (by show c.toNat = 10; omega)
  subst c3
  have hs : (s.extract p s.size).data.toList[d]? = some 10 := by rw [rest_get (by omega)]; exact c1
  have hz : (z.extract (A + p) z.size).data.toList[d]? = some 10 := by rw [rest_get (by omega), Nat.add_assoc, h.byte _ (by omega)]; exact c1
  have hsz : (s.extract p s.size).size = s.size - p := by rw [ByteArray.size_extract]; omega
  have hzz : (z.extract (A + p) z.size).size = z.size - (A + p) := by rw [ByteArray.size_extract]; omega
  have hx : ∀ n, n ≤ d → (z.extract (A + p) z.size).extract 0 n = (s.extract p s.size).extract 0 n := fun n hn => by
    rw [ByteArray.extract_extract, ByteArray.extract_extract, Nat.add_zero, Nat.add_zero]
    have := h.ext (i := p) (j := p + n) (by omega)
    rw [← Nat.add_assoc] at this
    rw [show min (A + p + n) z.size = A + p + n by omega, show min (p + n) s.size = p + n by omega]
    exact this
  have hf : ∀ n, n ≤ d → opFrom (z.extract (A + p) z.size) n = opFrom (s.extract p s.size) n := by
    intro n
    induction n with
    | zero => intro _; rfl
    | succ n ih =>
      intro hn
      rw [opFrom, opFrom, hx _ hn, ih (by omega)]
  unfold opN
  rw [op_nl hz, op_nl hs, hsz, hzz, show min (min 3 (z.size - (A + p))) d = min 3 d by omega, show min (min 3 (s.size - p)) d = min 3 d by omega]
  exact hf _ (by omega)
theorem rem_agr (h : Agr s z A M) {p : Nat} (hq : remN s p < M) : remN z (A + p) = A + remN s p := by
  have e1 := h.hs
  unfold remN at hq ⊢
  by_cases h0 : 0 ≤ lnM s p
  · obtain ⟨k, hk⟩ : ∃ k : Nat, lnM s p = k := ⟨(lnM s p).toNat, by omega⟩
    rw [if_pos h0, hk] at hq
    have hz : lnM z (A + p) = k := h.idx (i := p) (k := k) hq hk
    rw [hz, hk, if_pos (by omega), if_pos (by omega)]
    simp only [Int.toNat_natCast]
    omega
  · rw [if_neg h0] at hq
    omega
theorem cont_two {t : ByteArray} {i : Nat} (hi : i + 1 < t.size) : contM t i = (bt t i == 92 && bt t (i + 1) == 10) := by
  obtain ⟨c, c1, c2⟩ := bt_at (s := t) (i := i) (by omega)
  obtain ⟨d, d1, d2⟩ := bt_at (s := t) (i := i + 1) hi
  have h0 : (t.extract i t.size).data.toList[0]? = some c := by rw [rest_get (by omega)]; exact c1
  have h1 : (t.extract i t.size).data.toList[1]? = some d := by rw [rest_get (by omega)]; exact d1
  unfold contM Lib.hasPrefix
  cases hl : (t.extract i t.size).data.toList with
  | nil => rw [hl] at h0; simp at h0
  | cons a l =>
    cases l with
    | nil => rw [hl] at h1; simp at h1
    | cons b l =>
      rw [hl] at h0 h1
      obtain rfl : a = c := by simpa using h0
      obtain rfl : b = d := by simpa using h1
      rw [c2, d2]
      have ha : ((92 : UInt8) == a) = ((a.toNat : Int) == 92) := by
        rw [Bool.eq_iff_iff, beq_iff_eq, beq_iff_eq]
        constructor
        · rintro rfl; rfl
        · intro h; exact UInt8.toNat_inj.1 (by show 92 = a.toNat; omega)
      have hb : ((10 : UInt8) == b) = ((b.toNat : Int) == 10) := by
        rw [Bool.eq_iff_iff, beq_iff_eq, beq_iff_eq]
        constructor
        · rintro rfl; rfl
        · intro h; exact UInt8.toNat_inj.1 (by show 10 = b.toNat; omega)
      simp [List.isPrefixOf, ha, hb]
theorem cont_agr (h : Agr s z A M) {p : Nat} (hp : p < M) : contM z (A + p) = contM s p := by
  have e1 := h.hs
  have e2 := h.hz
  by_cases hb : bt s p = 92
  · have hl := h.not_last hp (by omega)
    rw [cont_two (by omega), cont_two (by omega), h.bt hp, show A + p + 1 = A + (p + 1) from rfl, h.bt hl]
  · have g1 : contM s p = false := by
      cases hc : contM s p
      · rfl
      · have := (cont_bytes (by omega) hc).1
        simp at this; omega
    have g2 : contM z (A + p) = false := by
      cases hc : contM z (A + p)
      · rfl
      · have := (cont_bytes (by omega) hc).1
        rw [h.bt hp] at this
        simp at this; omega
    rw [g1, g2]

/-- A token further on. -/
def shT (A : Nat) (t : Tk) : Tk := ⟨t.kind, t.text, A + t.place, t.doc, t.raw⟩
structure Rel (A : Nat) (st st' : LS) : Prop where
  place : st'.place = A + st.place
  toks : st'.toks = st.toks.map (shT A)
  dels : st'.dels = st.dels
theorem last_sh (ts : List Tk) : lastM (ts.map (shT A)) = lastM ts := by
  unfold lastM
  rw [List.getLast?_map]
  cases ts.getLast? <;> rfl
theorem Rel.tok (h : Agr s z A M) {st st' : LS} (hr : Rel A st st') {k m : Nat} (hm : st.place + m ≤ M) : Rel A (st.tok s k m) (st'.tok z k m) := by
  refine ⟨by show st'.place + m = A + (st.place + m); rw [hr.place]; omega, ?_, hr.dels⟩
  show st'.toks ++ _ = (st.toks ++ _).map (shT A)
  rw [List.map_append, hr.toks, hr.place]
  have := h.ext (i := st.place) (j := st.place + m) hm
  rw [← Nat.add_assoc] at this
  rw [this]
  rfl
theorem Rel.del {st st' : LS} (hr : Rel A st st') : Rel A st.del st'.del := by
  unfold LS.del
  rw [hr.toks, last_sh]
  split
  · exact ⟨hr.place, rfl, by simp [hr.dels]⟩
  · split
    · exact ⟨hr.place, rfl, by simp [hr.dels]⟩
    · exact hr
/-- The last token is a byte 10. -/
def NL (st : LS) : Prop := ∃ t, st.toks.getLast? = some t ∧ t.kind = 3
theorem nl_tok {st : LS} {k m : Nat} (hk : (k : Int) ≠ 3) : ¬ NL (st.tok s k m) := by
  rintro ⟨t, ht, h3⟩
  unfold LS.tok at ht
  simp only [List.getLast?_append, List.getLast?_singleton, Option.some_or, Option.some.injEq] at ht
  subst ht
  exact hk h3
theorem nl_gt {f : Nat} {st : LS} (_ : st.place ≤ s.size) (h : ¬ NL st) (he : (lineM s f st).2.1 = 0) (hn : NL (lineM s f st).2.2) : st.place < (lineM s f st).2.2.place ∧ (lineM s f st).2.2.place ≤ s.size ∧ st.place < s.size ∧ ∃ g, f = g + 1 := by
  by_cases hlt : st.place < s.size
  · cases f with
    | zero => exact absurd hn h
    | succ f => have := line_gt hlt he; exact ⟨this.1, this.2, hlt, f, rfl⟩
  · rw [line_end hlt] at hn
    exact absurd hn h
theorem nl_last : ∀ (f : Nat) (st : LS), st.place ≤ s.size → ¬ NL st → (lineM s f st).2.1 = 0 → NL (lineM s f st).2.2 → 0 < (lineM s f st).2.2.place ∧ bt s ((lineM s f st).2.2.place - 1) = 10
  | 0, st, _, h, _, hn => absurd hn h
  | f + 1, st, hp, h, he, hn => by
    obtain ⟨_, _, hlt, _⟩ := nl_gt hp h he hn
    cases h1 : (bt s st.place == 32 || bt s st.place == 9)
    · cases h2 : contM s st.place
      · cases h3 : (bt s st.place == 35)
        · cases h4 : (bt s st.place == 10)
          · by_cases h5 : 0 < opN (s.extract st.place s.size)
            · rw [line_op hlt h1 h2 h3 h4 h5] at he hn ⊢
              exact nl_last f _ (op_le3 hp) (nl_tok (by decide)) he hn
            · by_cases h6 : (wordM s st).2.1 = 0
              · rw [line_word hlt h1 h2 h3 h4 h5 h6] at he hn ⊢
                obtain ⟨m, m1, m2, m3, m4, hx⟩ := word_cases hlt (ends_of hlt h1 h4 h5) h6
                rcases hx with ⟨_, e⟩ | ⟨_, e⟩
                · rw [e] at he hn ⊢
                  exact nl_last f _ m3 (nl_tok (by decide)) he hn
                · rw [e] at he hn ⊢
                  exact nl_last f _ (by show st.del.place + m ≤ _; rw [del_place]; exact m3) (nl_tok (by decide)) he hn
              · rw [line_bad hlt h1 h2 h3 h4 h5 h6] at he
                exact absurd he h6
          · rw [line_nl hlt h1 h2 h3 h4]
            exact ⟨Nat.succ_pos _, by show bt s (st.place + 1 - 1) = 10; rw [Nat.add_sub_cancel]; simpa using h4⟩
        · rw [line_rem hlt h1 h2 h3] at he hn ⊢
          exact nl_last f _ (rem_gt hlt h3).2 h he hn
      · rw [line_cont hlt h1 h2] at he hn ⊢
        exact nl_last f _ (cont_lt hp h2) h he hn
    · rw [line_blank hlt h1] at he hn ⊢
      exact nl_last f _ hlt h he hn
theorem line_agr (h : Agr s z A M) : ∀ (f : Nat) (st : LS) (f' : Nat) (st' : LS), Rel A st st' → st.place ≤ s.size → ¬ NL st → (lineM s f st).2.1 = 0 → NL (lineM s f st).2.2 → (lineM s f st).2.2.place = M → M ≤ st.place + f' →
    ∃ r, lineM z f' st' = (0, 0, r) ∧ Rel A (lineM s f st).2.2 r
  | 0, st, f', st', _, _, h0, _, hn, _, _ => absurd hn h0
  | f + 1, st, f', st', hr, hp, h0, he, hn, hM, hf => by
    have e1 := h.hs
    have e2 := h.hz
    obtain ⟨hgt, _, hlt, _⟩ := nl_gt hp h0 he hn
    rw [hM] at hgt
    obtain ⟨g, rfl⟩ : ∃ g, f' = g + 1 := ⟨f' - 1, by omega⟩
    have zlt : st'.place < z.size := by rw [hr.place]; omega
    have zb : bt z st'.place = bt s st.place := by rw [hr.place]; exact h.bt hgt
    have zc : contM z st'.place = contM s st.place := by rw [hr.place]; exact cont_agr h hgt
    have zo : opN (z.extract st'.place z.size) = opN (s.extract st.place s.size) := by rw [hr.place]; exact op_agr h hgt
    cases h1 : (bt s st.place == 32 || bt s st.place == 9)
    · cases h2 : contM s st.place
      · cases h3 : (bt s st.place == 35)
        · cases h4 : (bt s st.place == 10)
          · by_cases h5 : 0 < opN (s.extract st.place s.size)
            · rw [line_op hlt h1 h2 h3 h4 h5] at he hn hM ⊢
              have hnx := (nl_gt (op_le3 hp) (nl_tok (by decide)) he hn).1
              rw [hM] at hnx
              have hnx' : st.place + opN (s.extract st.place s.size) < M := hnx
              rw [line_op zlt (by rw [zb]; exact h1) (by rw [zc]; exact h2) (by rw [zb]; exact h3) (by rw [zb]; exact h4) (by rw [zo]; exact h5), zo]
              exact line_agr h f _ g _ (hr.tok h (by omega)) (op_le3 hp) (nl_tok (by decide)) he hn hM (by show M ≤ st.place + opN _ + g; omega)
            · by_cases h6 : (wordM s st).2.1 = 0
              · rw [line_word hlt h1 h2 h3 h4 h5 h6] at he hn hM ⊢
                obtain ⟨m, m1, m2, m3, m4, hx⟩ := word_cases hlt (ends_of hlt h1 h4 h5) h6
                have key : ∀ st2 : LS, wordM s st = (0, 0, st2) → st2.place = st.place + m → ¬ NL st2 → (∀ st2' : LS, wordM z st' = (0, 0, st2') → Rel A st2 st2' → ∃ r, lineM z (g + 1) st' = (0, 0, r) ∧ Rel A (lineM s f (wordM s st).2.2).2.2 r) := fun st2 e hpl hnl st2' ez hr2 => by
                  rw [e] at he hn hM ⊢
                  rw [line_word zlt (by rw [zb]; exact h1) (by rw [zc]; exact h2) (by rw [zb]; exact h3) (by rw [zb]; exact h4) (by rw [zo]; exact h5) (by rw [ez]), ez]
                  exact line_agr h f _ g _ hr2 (by rw [hpl]; exact m3) hnl he hn hM (by rw [hpl]; omega)
                have hend : st.place + m < M → wEnd z z.size st'.place = ⟨st'.place + m, 0, 0⟩ := fun hlt2 => by
                  have := wEnd_agr h s.size st.place z.size (by omega) (by omega) (by omega) (by rw [m4]) (by rw [m4]; exact hlt2)
                  rw [hr.place, this, m4, Nat.add_assoc]
                have hcond : st.place + m < M → (digsM (z.extract st'.place (st'.place + m)) && redM z (st'.place + m)) = (digsM (s.extract st.place (st.place + m)) && redM s (st.place + m)) := fun hlt2 => by
                  have hx2 := h.ext (i := st.place) (j := st.place + m) (by omega)
                  have hb2 := h.bt hlt2
                  rw [hr.place, Nat.add_assoc, hx2]
                  unfold redM
                  rw [hb2, decide_eq_true (show A + (st.place + m) < z.size by omega), decide_eq_true (show st.place + m < s.size by omega)]
                rcases hx with ⟨hd, e⟩ | ⟨hd, e⟩
                · have hlt2 : st.place + m < M := by
                    have he2 := he
                    have hn2 := hn
                    have hM2 := hM
                    rw [e] at he2 hn2 hM2
                    have := (nl_gt (st := st.tok s 4 m) m3 (nl_tok (by decide)) he2 hn2).1
                    rw [hM2] at this
                    exact this
                  exact key _ e rfl (nl_tok (by decide)) _ (word_num (hend hlt2) (by omega) (by rw [hcond hlt2]; exact hd)) (hr.tok h (by omega))
                · have hpl : (st.del.tok s 1 m).place = st.place + m := by show st.del.place + m = _; rw [del_place]
                  have hlt2 : st.place + m < M := by
                    have he2 := he
                    have hn2 := hn
                    have hM2 := hM
                    rw [e] at he2 hn2 hM2
                    have := (nl_gt (st := st.del.tok s 1 m) (by rw [hpl]; exact m3) (nl_tok (by decide)) he2 hn2).1
                    rw [hM2, hpl] at this
                    exact this
                  exact key _ e hpl (nl_tok (by decide)) _ (word_word (hend hlt2) (by omega) (by rw [hcond hlt2]; exact hd)) (hr.del.tok h (by rw [del_place]; omega))
              · rw [line_bad hlt h1 h2 h3 h4 h5 h6] at he
                exact absurd he h6
          · rw [line_nl hlt h1 h2 h3 h4] at hM ⊢
            rw [line_nl zlt (by rw [zb]; exact h1) (by rw [zc]; exact h2) (by rw [zb]; exact h3) (by rw [zb]; exact h4)]
            exact ⟨_, rfl, hr.tok h (by omega)⟩
        · rw [line_rem hlt h1 h2 h3] at he hn hM ⊢
          have hnx := (nl_gt (st := ⟨remN s st.place, st.toks, st.dels⟩) (rem_gt hlt h3).2 h0 he hn).1
          rw [hM] at hnx
          have hnx' : remN s st.place < M := hnx
          have hgr := (rem_gt hlt h3).1
          rw [line_rem zlt (by rw [zb]; exact h1) (by rw [zc]; exact h2) (by rw [zb]; exact h3)]
          exact line_agr h f _ g _ ⟨by show remN z st'.place = A + remN s st.place; rw [hr.place]; exact rem_agr h hnx', hr.toks, hr.dels⟩ (rem_gt hlt h3).2 h0 he hn hM (by show M ≤ remN s st.place + g; omega)
      · rw [line_cont hlt h1 h2] at he hn hM ⊢
        rw [line_cont zlt (by rw [zb]; exact h1) (by rw [zc]; exact h2)]
        exact line_agr h f _ g _ ⟨by show st'.place + 2 = A + (st.place + 2); rw [hr.place]; omega, hr.toks, hr.dels⟩ (cont_lt hp h2) h0 he hn hM (by show M ≤ st.place + 2 + g; omega)
    · rw [line_blank hlt h1] at he hn hM ⊢
      rw [line_blank zlt (by rw [zb]; exact h1)]
      exact line_agr h f _ g _ ⟨by show st'.place + 1 = A + (st.place + 1); rw [hr.place]; omega, hr.toks, hr.dels⟩ hlt h0 he hn hM (by show M ≤ st.place + 1 + g; omega)
end
end Go.Proofs.YtkakphiofahlgaaDoor
