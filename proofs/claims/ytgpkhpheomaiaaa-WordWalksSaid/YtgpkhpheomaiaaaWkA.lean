/- The parts of a word one behind the other: how many there are; which are quoted. No condition. -/
import Derived.Test.YtgpkhpheomaiaaaRdH
namespace Go.Proofs.Ytgpkhpheomaiaaa
open Go.RowKit Go.PlainAid

mutual
def PT.cnt : PT → Nat
  | .mk _ _ _ w _ => cntL w + 1
def cntL : List PT → Nat
  | [] => 0
  | p :: l => p.cnt + cntL l
end
mutual
/-- A part, and behind it what stands in its word. -/
def PT.flat : PT → List PT
  | .mk k t o w q => .mk k t o w q :: flatL w
def flatL : List PT → List PT
  | [] => []
  | p :: l => p.flat ++ flatL l
end
theorem flat_eq (p : PT) : p.flat = p :: flatL p.word := by cases p; rw [PT.flat]; rfl
theorem cnt_eq (p : PT) : p.cnt = cntL p.word + 1 := by cases p; rw [PT.cnt]; rfl
mutual
theorem PT.flat_len : ∀ p : PT, p.flat.length = p.cnt
  | .mk k t o w q => by rw [PT.flat, PT.cnt, List.length_cons, flatL_len w]
theorem flatL_len : ∀ l : List PT, (flatL l).length = cntL l
  | [] => rfl
  | p :: l => by rw [flatL, cntL, List.length_append, PT.flat_len p, flatL_len l]
end
theorem cntL_app (a b : List PT) : cntL (a ++ b) = cntL a + cntL b := by
  induction a with
  | nil => simp [cntL]
  | cons p a ih => rw [List.cons_append, cntL, cntL, ih]; omega
theorem flatL_app (a b : List PT) : flatL (a ++ b) = flatL a ++ flatL b := by
  induction a with
  | nil => simp [flatL]
  | cons p a ih => rw [List.cons_append, flatL, flatL, ih, List.append_assoc]
def St.m3 (st : St) : Nat := cntL st.ps + if st.o then 1 else 0
theorem lit_cnt (bs : List UInt8) (q : Bool) : cntL [litT bs q] = 1 := by simp [cntL, litT, PT.cnt]
theorem close_m3 (st : St) : st.close.m3 = st.m3 := by
  unfold St.m3
  cases h : st.o
  · rw [close_shut h]
    all_goals rfl
  · rw [close_open h]
    simp only [cntL_app, lit_cnt]
    rfl
theorem add_m3 (st : St) (x : ByteArray) (q : Bool) : (st.add x q).m3 ≤ st.m3 + 1 := by
  unfold St.m3 St.add
  simp only [if_true]
  split <;> omega
theorem take_m3 (st : St) (x : ByteArray) (q : Bool) : (st.take x q).m3 ≤ st.m3 + 1 := by
  unfold St.take
  split
  · have := add_m3 st.close x q
    rw [close_m3] at this
    exact this
  · exact add_m3 st x q
theorem part_m3 (st : St) (p : PT) : (st.part p).m3 = st.m3 + p.cnt := by
  have h := close_m3 st
  unfold St.m3 at *
  unfold St.part
  simp only [close_closed, cntL_app] at h ⊢
  simp [cntL] at h ⊢
  omega
theorem cnt_pos (p : PT) : 1 ≤ p.cnt := by rw [cnt_eq]; omega
theorem addM_m3 (st : St) (p : PT) : (addM st p).m3 ≤ st.m3 + p.cnt := by
  unfold addM
  split
  · have := take_m3 st p.text true
    have := cnt_pos p
    omega
  · rw [part_m3]; exact Nat.le_refl _
theorem fold_m3 : ∀ (l : List PT) (st : St), (l.foldl addM st).m3 ≤ st.m3 + cntL l
  | [], st => by simp [cntL]
  | p :: l, st => by
    have h1 := addM_m3 st p
    have h2 := fold_m3 l (addM st p)
    simp only [List.foldl_cons, cntL]
    omega
/-- What is read within has no more parts, at whatever depth, than its text has bytes. -/
def RecN (rec : Rec) : Prop := ∀ s k l, rec s k = .ok l → cntL l ≤ s.size
def StepN (i : Nat) (st : St) (r : Nat × St) : Prop := r.2.m3 + i ≤ st.m3 + r.1
section
variable {rec : Rec} {s : ByteArray} {k : Int} {kk i : Nat} {st : St}
theorem take_n {x : ByteArray} {q : Bool} {n : Nat} (h1 : i < n) : StepN i st (n, st.take x q) := by
  have := take_m3 st x q
  show (st.take x q).m3 + i ≤ _ + n
  omega
theorem param_cnt (hrec : RecN rec) {p : PT} (h : paramM rec s k = .ok p) : p.cnt ≤ s.size + 1 := by
  unfold paramM at h
  split at h
  · cases h; rw [cnt_eq]; simp [PT.word, cntL]
  · split at h
    · cases h
    · split at h
      · cases h; rw [cnt_eq]; simp [PT.word, cntL]
      · split at h
        · cases h
        · split at h
          · cases h
          · rename_i l hl
            cases h
            have := hrec _ _ _ hl
            rw [ext_size] at this
            rw [cnt_eq]
            show cntL l + 1 ≤ _
            omega
theorem sub_cnt (hrec : RecN rec) {bw : ByteArray} {p : PT} (h : subPart rec s bw k kk i = .ok p) : p.cnt ≤ bw.size + 1 := by
  unfold subPart at h
  split at h
  · exact param_cnt hrec h
  · split at h
    · split at h
      · cases h
      · rename_i l hl
        cases h
        have := hrec _ _ _ hl
        rw [ext_size] at this
        rw [cnt_eq]
        show cntL l + 1 ≤ _
        omega
    · cases h; rw [cnt_eq]; simp [PT.word, cntL]
theorem quote_cnt (p : PT) (q : Bool) : (p.quote q).cnt = p.cnt := by rw [cnt_eq, cnt_eq]; rfl
theorem subst_n (hrec : RecN rec) {r : Nat × St} (hi : i < s.size) (hs : isSub (s.extract (i + 1) s.size) = true) (h36 : bt s i = 36) (h : substM rec s k kk i st = .ok r) : StepN i st r := by
  unfold substM at h
  split at h
  · cases h
  · rename_i he
    obtain ⟨h1, h2⟩ := end_le hi (sub_begs hs h36).1 (Decidable.not_not.1 he)
    split at h
    · cases h
    · rename_i p hp
      cases h
      have := sub_cnt hrec hp
      rw [ext_size] at this
      show (st.part (p.quote (k != 0))).m3 + i ≤ _
      rw [part_m3, quote_cnt]
      dsimp only
      omega
theorem dollar_n (hrec : RecN rec) {r : Nat × St} (hi : i < s.size) (h36 : bt s i = 36) (h : dollarM rec s k kk i st = .ok r) : StepN i st r := by
  unfold dollarM at h
  split at h
  · exact subst_n hrec hi ‹_› h36 h
  · split at h
    · rename_i h0
      injection h with h
      subst h
      show (st.part _).m3 + i ≤ _
      rw [part_m3, cnt_eq]
      simp only [PT.word, cntL]
      omega
    · injection h with h
      subst h
      exact take_n (by omega)
theorem quotes_n (hrec : RecN rec) {r : Nat × St} (hi : i < s.size) (hb : begM s i (k != 0) = true) (h : quotesM rec s k kk i st = .ok r) : StepN i st r := by
  unfold quotesM at h
  split at h
  · cases h
  · rename_i he
    obtain ⟨h1, h2⟩ := end_le hi hb (Decidable.not_not.1 he)
    split at h
    · cases h
      exact take_n (by omega)
    · split at h
      · cases h
      · rename_i l hl
        injection h with h
        subst h
        have l1 := hrec _ _ _ hl
        rw [ext_size] at l1
        obtain ⟨E, hE⟩ : ∃ E, (endM s i kk (k != 0)).next = E := ⟨_, rfl⟩
        rw [hE] at h1 h2 l1 ⊢
        by_cases h0 : l.length = 0
        · rw [if_pos h0]
          have hf := fold_m3 l (st.take ⟨#[]⟩ true)
          have ht := take_m3 st ⟨#[]⟩ true
          have hl0 : cntL l = 0 := by rw [List.length_eq_zero_iff.1 h0]; simp [cntL]
          show (l.foldl addM (st.take ⟨#[]⟩ true)).m3 + i ≤ st.m3 + E
          omega
        · rw [if_neg h0]
          have hf := fold_m3 l st
          show (l.foldl addM st).m3 + i ≤ st.m3 + E
          omega
theorem step_n (hrec : RecN rec) {r : Nat × St} (hi : i < s.size) (h : stepM rec s k kk i st = .ok r) : StepN i st r := by
  unfold stepM at h
  split at h
  · cases h
    unfold bsM
    split
    · exact take_n (by omega)
    · split
      · show st.m3 + i ≤ st.m3 + (i + 2); omega
      · split
        · exact take_n (by omega)
        · exact take_n (by omega)
  · split at h
    · cases h
    · split at h
      · rename_i hq
        refine quotes_n hrec hi ?_ h
        unfold begM
        rw [hq.2]
        rcases hq.1 with e | e <;> rw [e] <;> rfl
      · split at h
        · exact dollar_n hrec hi ‹_› h
        · split at h
          · cases h
            show (st.part _).m3 + i ≤ st.m3 + (i + 1)
            rw [part_m3, cnt_eq]
            simp only [PT.word, cntL]
            omega
          · cases h
            exact take_n (by omega)
end
theorem run_n {f : Nat → St → Except Nat (Nat × St)} {s : ByteArray} (hf : ∀ i st r, st.ok → i < s.size → f i st = .ok r → StepOk s i st r) (hg : ∀ i st r, i < s.size → f i st = .ok r → StepN i st r) : ∀ (n i : Nat) (st r : St), st.ok → i ≤ s.size → runM f s.size n i st = .ok r → r.m3 + i ≤ st.m3 + s.size
  | 0, i, st, r, hok, hi, h => by
    cases h
    omega
  | n + 1, i, st, r, hok, hi, h => by
    unfold runM at h
    split at h
    · rename_i hlt
      split at h
      · cases h
      · rename_i r1 hr1
        obtain ⟨h1, h2, _, _, h5⟩ := hf i st r1 hok hlt hr1
        have h3 := hg i st r1 hlt hr1
        have := run_n hf hg n r1.1 r1.2 r h5 h2 h
        unfold StepN at h3
        omega
    · cases h
      omega
theorem over_n {rec : Rec} (hrec : RecOk rec) (hn : RecN rec) (kk : Nat) : RecN (overM rec kk) := by
  intro s k l h
  unfold overM at h
  split at h
  · cases h
  · rename_i st hst
    cases h
    have h1 := run_n (fun i st r hok hi h => step_ok hok hrec hi h) (fun i st r hi h => step_n hn hi h) _ _ _ _ (fun _ => ⟨rfl, rfl⟩) (Nat.zero_le _) hst
    have hc := close_m3 st
    have e1 : st0.m3 = 0 := rfl
    rw [e1] at h1
    have h5 : cntL st.close.ps ≤ st.close.m3 := by unfold St.m3; omega
    omega
theorem parts_n : ∀ kk, RecN (partsM kk)
  | 0 => over_n (fun _ _ _ h => by cases h) (fun _ _ _ h => by cases h) 0
  | kk + 1 => over_n (parts_ok kk) (parts_n kk) (kk + 1)

/-- Within quotes all that is held is quoted. -/
def AllQ (st : St) : Prop := (∀ p ∈ st.ps, p.quoted = true) ∧ (st.o = true → st.q = true)
theorem allQ_close {st : St} (h : AllQ st) : AllQ st.close := by
  unfold St.close
  refine ⟨fun p hp => ?_, fun e => by cases e⟩
  cases ho : st.o
  · rw [ho] at hp
    exact h.1 p (by simpa using hp)
  · rw [ho] at hp
    simp only [if_true] at hp
    rcases List.mem_append.1 hp with hp | hp
    · exact h.1 p hp
    · rw [List.mem_singleton.1 hp]
      exact h.2 ho
theorem allQ_add {st : St} (h : AllQ st) (x : ByteArray) : AllQ (st.add x true) := ⟨h.1, fun _ => rfl⟩
theorem allQ_take {st : St} (h : AllQ st) (x : ByteArray) : AllQ (st.take x true) := by
  unfold St.take
  split
  · exact allQ_add (allQ_close h) x
  · exact allQ_add h x
theorem allQ_part {st : St} (h : AllQ st) {p : PT} (hp : p.quoted = true) : AllQ (st.part p) := by
  unfold St.part
  refine ⟨fun x hx => ?_, fun e => by cases e⟩
  rcases List.mem_append.1 hx with hx | hx
  · exact (allQ_close h).1 x hx
  · rw [List.mem_singleton.1 hx]; exact hp
theorem step_q {rec : Rec} {s : ByteArray} {k : Int} {kk i : Nat} {st : St} {r : Nat × St} (hk : k ≠ 0) (hq : AllQ st) (h : stepM rec s k kk i st = .ok r) : AllQ r.2 := by
  have hk' : (k != 0) = true := by simpa using hk
  unfold stepM at h
  split at h
  · cases h
    unfold bsM
    split
    · exact allQ_take hq _
    · split
      · exact hq
      · split
        · exact allQ_take hq _
        · exact allQ_take hq _
  · split at h
    · cases h
    · split at h
      · rename_i hx
        exact absurd hx.2 hk
      · split at h
        · unfold dollarM at h
          split at h
          · unfold substM at h
            split at h
            · cases h
            · split at h
              · cases h
              · cases h
                exact allQ_part hq (by rw [hk']; rfl)
          · split at h
            · injection h with h
              subst h
              exact allQ_part hq (by rw [hk']; rfl)
            · injection h with h
              subst h
              rw [hk']
              exact allQ_take hq _
        · split at h
          · rename_i hx
            exact absurd hx.2.2.1 hk
          · cases h
            rw [hk']
            exact allQ_take hq _
theorem run_q {f : Nat → St → Except Nat (Nat × St)} {size : Nat} (hf : ∀ i st r, AllQ st → f i st = .ok r → AllQ r.2) : ∀ (n i : Nat) (st r : St), AllQ st → runM f size n i st = .ok r → AllQ r
  | 0, i, st, r, hq, h => by cases h; exact hq
  | n + 1, i, st, r, hq, h => by
    unfold runM at h
    split at h
    · split at h
      · cases h
      · rename_i r1 hr1
        exact run_q hf n r1.1 r1.2 r (hf i st r1 hq hr1) h
    · cases h; exact hq
theorem parts_q {kk : Nat} {s : ByteArray} {k : Int} {l : List PT} (hk : k ≠ 0) (h : partsM kk s k = .ok l) : ∀ p ∈ l, p.quoted = true := by
  have key : ∀ (rec : Rec) (n : Nat), overM rec n s k = .ok l → ∀ p ∈ l, p.quoted = true := fun rec n h => by
    unfold overM at h
    split at h
    · cases h
    · rename_i st hst
      cases h
      exact (allQ_close (run_q (fun i st r hq h => step_q hk hq h) _ _ _ _ ⟨(fun p hp => by cases hp), (fun e => by cases e)⟩ hst)).1
  cases kk with
  | zero => exact key _ _ h
  | succ kk => exact key _ _ h
end Go.Proofs.Ytgpkhpheomaiaaa
