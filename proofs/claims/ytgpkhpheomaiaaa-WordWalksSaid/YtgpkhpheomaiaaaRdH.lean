/- A word's parts as a plain function of its text. No condition. -/
import Derived.Test.YtgpkhpheomaiaaaRdG
namespace Go.Proofs.Ytgpkhpheomaiaaa
open Go.RowKit Go.PlainAid

abbrev Rec := ByteArray → Int → Except Nat (List PT)
def PT.quote (p : PT) (q : Bool) : PT := .mk p.kind p.text p.op p.word q
def bsM (s : ByteArray) (k : Int) (i : Nat) (st : St) : Nat × St :=
  if i + 1 = s.size then (i + 1, st.take ⟨#[92]⟩ true)
  else if bt s (i + 1) = 10 then (i + 2, st)
  else if k = 0 ∨ bt s (i + 1) = 36 ∨ bt s (i + 1) = 96 ∨ bt s (i + 1) = 92 ∨ (bt s (i + 1) = 34 ∧ k = 1) then (i + 2, st.take (s.extract (i + 1) (i + 2)) true)
  else (i + 1, st.take ⟨#[92]⟩ true)
def paramKind (op : ByteArray) (k : Int) : Int := if bt op 0 = 37 ∨ bt op 0 = 35 then 0 else k
def paramM (rec : Rec) (s : ByteArray) (k : Int) : Except Nat PT :=
  if 0 < pszM (s.extract (min 1 s.size) s.size) ∧ bt s 0 = 35 ∧ 1 + pszM (s.extract (min 1 s.size) s.size) = s.size then .ok (.mk 2 (s.extract 1 s.size) ⟨#[108, 101, 110]⟩ [] false)
  else if pszM s = 0 then .error 55
  else if pszM s = s.size then .ok (.mk 2 (s.extract 0 (pszM s)) ⟨#[]⟩ [] false)
  else if (opM (s.extract (pszM s) s.size)).size = 0 then .error 55
  else match rec (s.extract (pszM s + (opM (s.extract (pszM s) s.size)).size) s.size) (paramKind (opM (s.extract (pszM s) s.size)) k) with
    | .error e => .error e
    | .ok l => .ok (.mk 2 (s.extract 0 (pszM s)) (opM (s.extract (pszM s) s.size)) l false)
/-- The part that a substitution is. -/
def subPart (rec : Rec) (s bw : ByteArray) (k : Int) (kk i : Nat) : Except Nat PT :=
  if bt s (i + 1) = 123 then paramM rec bw k
  else if exprM bw kk (k != 0) then (match rec (bw.extract 1 (bw.size - 1)) 2 with
    | .error e => .error e
    | .ok l => .ok (.mk 4 ⟨#[]⟩ ⟨#[]⟩ l false))
  else .ok (.mk 3 bw ⟨#[]⟩ [] false)
def substM (rec : Rec) (s : ByteArray) (k : Int) (kk i : Nat) (st : St) : Except Nat (Nat × St) :=
  if (endM s i kk (k != 0)).err ≠ 0 then .error (endM s i kk (k != 0)).err
  else match subPart rec s (s.extract (i + 2) ((endM s i kk (k != 0)).next - 1)) k kk i with
    | .error e => .error e
    | .ok p => .ok ((endM s i kk (k != 0)).next, st.part (p.quote (k != 0)))
def isSub (x : ByteArray) : Bool := Lib.hasPrefix x.data.toList [40] || Lib.hasPrefix x.data.toList [123]
def dollarM (rec : Rec) (s : ByteArray) (k : Int) (kk i : Nat) (st : St) : Except Nat (Nat × St) :=
  if isSub (s.extract (i + 1) s.size) then substM rec s k kk i st
  else if 0 < bareM (s.extract (i + 1) s.size) then .ok (i + 1 + bareM (s.extract (i + 1) s.size), st.part (.mk 2 ((s.extract (i + 1) s.size).extract 0 (bareM (s.extract (i + 1) s.size))) ⟨#[]⟩ [] (k != 0)))
  else .ok (i + 1, st.take ⟨#[36]⟩ (k != 0))
def addM (st : St) (p : PT) : St := if p.kind = 1 then st.take p.text true else st.part p
def quotesM (rec : Rec) (s : ByteArray) (k : Int) (kk i : Nat) (st : St) : Except Nat (Nat × St) :=
  if (endM s i kk (k != 0)).err ≠ 0 then .error (endM s i kk (k != 0)).err
  else if bt s i = 39 then .ok ((endM s i kk (k != 0)).next, st.take (s.extract (i + 1) ((endM s i kk (k != 0)).next - 1)) true)
  else match rec (s.extract (i + 1) ((endM s i kk (k != 0)).next - 1)) 1 with
    | .error e => .error e
    | .ok l => .ok ((endM s i kk (k != 0)).next, l.foldl addM (if l.length = 0 then st.take ⟨#[]⟩ true else st))
def stepM (rec : Rec) (s : ByteArray) (k : Int) (kk i : Nat) (st : St) : Except Nat (Nat × St) :=
  if bt s i = 92 then .ok (bsM s k i st)
  else if bt s i = 96 then .error 55
  else if (bt s i = 39 ∨ bt s i = 34) ∧ k = 0 then quotesM rec s k kk i st
  else if bt s i = 36 then dollarM rec s k kk i st
  else if bt s i = 126 ∧ i = 0 ∧ k = 0 ∧ (s.size = 1 ∨ bt s 1 = 47) then .ok (i + 1, st.part (.mk 5 ⟨#[126]⟩ ⟨#[]⟩ [] false))
  else .ok (i + 1, st.take (s.extract i (i + 1)) (k != 0))
def runM (f : Nat → St → Except Nat (Nat × St)) (size : Nat) : Nat → Nat → St → Except Nat St
  | 0, _, st => .ok st
  | n + 1, i, st => if i < size then (match f i st with
      | .error e => .error e
      | .ok r => runM f size n r.1 r.2) else .ok st
def st0 : St := ⟨[], [], false, false⟩
def overM (rec : Rec) (kk : Nat) (s : ByteArray) (k : Int) : Except Nat (List PT) :=
  match runM (stepM rec s k kk) s.size s.size 0 st0 with
  | .error e => .error e
  | .ok st => .ok st.close.ps
def partsM : Nat → Rec
  | 0 => overM (fun _ _ => .error 1) 0
  | kk + 1 => overM (partsM kk) (kk + 1)

def litTot : List PT → Nat
  | [] => 0
  | p :: l => (if p.kind = 1 then p.text.size else 0) + litTot l
theorem litTot_app (a b : List PT) : litTot (a ++ b) = litTot a + litTot b := by
  induction a with
  | nil => simp [litTot]
  | cons p a ih => rw [List.cons_append, litTot, litTot, ih]; omega
def St.m1 (st : St) : Nat := st.ps.length + if st.o then 1 else 0
def St.m2 (st : St) : Nat := litTot st.ps + if st.o then st.bytes.length else 0
/-- Nothing is held where nothing is open. -/
def St.ok (st : St) : Prop := st.o = false → st.bytes = [] ∧ st.q = false
theorem size_mk (l : List UInt8) : (⟨l.toArray⟩ : ByteArray).size = l.length := rfl
theorem close_m (st : St) : st.close.m1 = st.m1 ∧ st.close.m2 = st.m2 := by
  unfold St.m1 St.m2
  cases h : st.o
  · rw [close_shut h]; exact ⟨rfl, rfl⟩
  · rw [close_open h]
    refine ⟨by simp, ?_⟩
    simp only [litTot_app]
    show litTot st.ps + ((if (1 : Nat) = 1 then st.bytes.toArray.size else 0) + 0) + _ = _
    simp
theorem close_ok (st : St) : st.close.ok := fun _ => ⟨rfl, rfl⟩
theorem add_ok (st : St) (x : ByteArray) (q : Bool) : (st.add x q).ok := fun h => by cases h
theorem part_ok (st : St) (p : PT) : (st.part p).ok := fun _ => ⟨rfl, rfl⟩
theorem take_ok (st : St) (x : ByteArray) (q : Bool) : (st.take x q).ok := by
  unfold St.take; split <;> exact add_ok _ _ _
theorem add_m {st : St} (hok : st.ok) (x : ByteArray) (q : Bool) : (st.add x q).m1 ≤ st.m1 + 1 ∧ (st.add x q).m2 ≤ st.m2 + x.size := by
  unfold St.m1 St.m2 St.add
  rw [Lib.size_eq]
  refine ⟨by simp, ?_⟩
  simp only [List.length_append, if_pos]
  cases h : st.o
  · rw [(hok h).1]; simp
  · simp; omega
theorem take_m {st : St} (hok : st.ok) (x : ByteArray) (q : Bool) : (st.take x q).m1 ≤ st.m1 + 1 ∧ (st.take x q).m2 ≤ st.m2 + x.size := by
  unfold St.take
  split
  · have := add_m (close_ok st) x q
    rw [(close_m st).1, (close_m st).2] at this
    exact this
  · exact add_m hok x q
theorem part_m (st : St) (p : PT) : (st.part p).m1 = st.m1 + 1 ∧ (st.part p).m2 = st.m2 + if p.kind = 1 then p.text.size else 0 := by
  have h := close_m st
  unfold St.m1 St.m2 at *
  unfold St.part
  simp only [close_closed, litTot_app, List.length_append] at h ⊢
  simp [litTot] at h ⊢
  omega
theorem addM_m {st : St} (hok : st.ok) (p : PT) : (addM st p).m1 ≤ st.m1 + 1 ∧ (addM st p).m2 ≤ st.m2 + (if p.kind = 1 then p.text.size else 0) ∧ (addM st p).ok := by
  unfold addM
  split
  · rename_i h
    have := take_m hok p.text true
    exact ⟨this.1, this.2, take_ok _ _ _⟩
  · rename_i h
    have := part_m st p
    rw [if_neg h] at this
    exact ⟨by omega, by omega, part_ok _ _⟩
theorem fold_m : ∀ (l : List PT) {st : St}, st.ok → (l.foldl addM st).m1 ≤ st.m1 + l.length ∧ (l.foldl addM st).m2 ≤ st.m2 + litTot l ∧ (l.foldl addM st).ok
  | [], st, h => ⟨by simp, by simp [litTot], h⟩
  | p :: l, st, h => by
    obtain ⟨h1, h2, h3⟩ := addM_m h p
    obtain ⟨i1, i2, i3⟩ := fold_m l h3
    simp only [List.foldl_cons, List.length_cons, litTot]
    exact ⟨by omega, by omega, i3⟩
theorem m1_ge (st : St) : st.ps.length ≤ st.m1 := by unfold St.m1; omega
theorem m2_ge {st : St} (hok : st.ok) : st.bytes.length ≤ st.m2 := by
  unfold St.m2
  cases h : st.o
  · rw [(hok h).1]; simp
  · simp

/-- What a step leaves: it has gone on, and has no more than it has gone over. -/
def StepOk (s : ByteArray) (i : Nat) (st : St) (r : Nat × St) : Prop := i < r.1 ∧ r.1 ≤ s.size ∧ r.2.m1 + i ≤ st.m1 + r.1 ∧ r.2.m2 + i ≤ st.m2 + r.1 ∧ r.2.ok
theorem ext_size (s : ByteArray) (a b : Nat) : (s.extract a b).size = min b s.size - a := ByteArray.size_extract
section
variable {rec : Rec} {s : ByteArray} {k : Int} {kk i : Nat} {st : St} (hok : st.ok)
include hok
theorem take_step {x : ByteArray} {q : Bool} {n : Nat} (h1 : i < n) (h2 : n ≤ s.size) (hx : x.size + i ≤ n) : StepOk s i st (n, st.take x q) := by
  have := take_m hok x q
  exact ⟨h1, h2, by show (st.take x q).m1 + i ≤ _ + n; omega, by show (st.take x q).m2 + i ≤ _ + n; omega, take_ok _ _ _⟩
omit hok in
theorem part_step {p : PT} {n : Nat} (h1 : i < n) (h2 : n ≤ s.size) (hx : p.kind ≠ 1) : StepOk s i st (n, st.part p) := by
  have := part_m st p
  rw [if_neg hx] at this
  exact ⟨h1, h2, by show (st.part p).m1 + i ≤ _ + n; omega, by show (st.part p).m2 + i ≤ _ + n; omega, part_ok _ _⟩
theorem bs_step (hi : i < s.size) : StepOk s i st (bsM s k i st) := by
  unfold bsM
  split
  · exact take_step hok (by omega) (by omega) (by show 1 + i ≤ _; omega)
  · split
    · exact ⟨by show i < i + 2; omega, by show i + 2 ≤ _; omega, by show st.m1 + i ≤ st.m1 + (i + 2); omega, by show st.m2 + i ≤ st.m2 + (i + 2); omega, hok⟩
    · split
      · exact take_step hok (by omega) (by omega) (by rw [ext_size]; omega)
      · exact take_step hok (by omega) (by omega) (by show 1 + i ≤ _; omega)
omit hok in
theorem end_le (hi : i < s.size) {q : Bool} (hb : begM s i q = true) (h : (endM s i kk q).err = 0) : i + 2 ≤ (endM s i kk q).next ∧ (endM s i kk q).next ≤ s.size := by
  unfold endM at h ⊢
  rw [if_pos hb] at h ⊢
  exact ⟨whole_ge s kk i q h, (whole_good s kk i q hi h).2⟩
omit hok in
theorem param_kind {p : PT} (h : paramM rec s k = .ok p) : p.kind = 2 := by
  unfold paramM at h
  split at h
  · cases h; rfl
  · split at h
    · cases h
    · split at h
      · cases h; rfl
      · split at h
        · cases h
        · split at h
          · cases h
          · cases h; rfl
omit hok in
theorem sub_kind {bw : ByteArray} {p : PT} (h : subPart rec s bw k kk i = .ok p) : p.kind ≠ 1 := by
  unfold subPart at h
  split at h
  · rw [param_kind h]; decide
  · split at h
    · split at h
      · cases h
      · cases h; exact (by decide : (4 : Nat) ≠ 1)
    · cases h; exact (by decide : (3 : Nat) ≠ 1)
omit hok in
theorem sub_begs (hs : isSub (s.extract (i + 1) s.size) = true) (h36 : bt s i = 36) {q : Bool} : begM s i q = true ∧ i + 1 < s.size := by
  have hx : ∀ c : UInt8, Lib.hasPrefix (s.extract (i + 1) s.size).data.toList [c] = true → i + 1 < s.size ∧ bt s (i + 1) = c.toNat := by
    intro c h
    have hsz : (s.extract (i + 1) s.size).data.toList.length = s.size - (i + 1) := by rw [← Lib.size_eq, ext_size]; omega
    rw [Lib.extract_data] at h hsz
    cases hl : (s.data.toList.drop (i + 1)).take (s.size - (i + 1)) with
    | nil => rw [hl] at h; cases h
    | cons a l =>
      rw [hl] at h hsz
      have hlt : i + 1 < s.size := by simp at hsz; omega
      refine ⟨hlt, ?_⟩
      have ha : s.data.toList[i + 1]? = some a := by
        have := congrArg (fun l => l[0]?) hl
        simp only [List.getElem?_cons_zero] at this
        rw [List.getElem?_take_of_lt (by omega), List.getElem?_drop, Nat.add_zero] at this
        exact this
      have hc : c = a := by simpa [Lib.hasPrefix] using h
      unfold bt
      rw [dif_pos hlt]
      obtain ⟨h1, h2⟩ := List.getElem?_eq_some_iff.1 ha
      rw [hc, ← h2]
      rfl
  have hq : i + 1 < s.size ∧ (bt s (i + 1) = 40 ∨ bt s (i + 1) = 123) := by
    unfold isSub at hs
    rw [Bool.or_eq_true] at hs
    rcases hs with h | h
    · exact ⟨(hx 40 h).1, .inl (hx 40 h).2⟩
    · exact ⟨(hx 123 h).1, .inr (hx 123 h).2⟩
  refine ⟨?_, hq.1⟩
  unfold begM
  rw [h36]
  rcases hq.2 with h | h <;> rw [h, decide_eq_true hq.1] <;> rfl
omit hok in
theorem subst_step {r : Nat × St} (hi : i < s.size) (hs : isSub (s.extract (i + 1) s.size) = true) (h36 : bt s i = 36) (h : substM rec s k kk i st = .ok r) : StepOk s i st r := by
  unfold substM at h
  split at h
  · cases h
  · rename_i he
    obtain ⟨h1, h2⟩ := end_le hi (sub_begs hs h36).1 (Decidable.not_not.1 he)
    split at h
    · cases h
    · rename_i p hp
      cases h
      exact part_step (by omega) h2 (by have := sub_kind hp; exact this)
theorem dollar_step {r : Nat × St} (hi : i < s.size) (h36 : bt s i = 36) (h : dollarM rec s k kk i st = .ok r) : StepOk s i st r := by
  unfold dollarM at h
  split at h
  · exact subst_step hi ‹_› h36 h
  · split at h
    · rename_i h0
      injection h with h
      subst h
      have := bare_le (s.extract (i + 1) s.size)
      rw [ext_size] at this
      exact part_step (p := .mk 2 _ _ _ _) (by omega) (by omega) (fun e => by cases e)
    · injection h with h
      subst h
      exact take_step hok (by omega) (by omega) (by show 1 + i ≤ _; omega)
/-- What is read within gives no more than its text. -/
def RecOk (rec : Rec) : Prop := ∀ s k l, rec s k = .ok l → l.length ≤ s.size ∧ litTot l ≤ s.size
theorem quotes_step (hrec : RecOk rec) {r : Nat × St} (hi : i < s.size) (hb : begM s i (k != 0) = true) (h : quotesM rec s k kk i st = .ok r) : StepOk s i st r := by
  unfold quotesM at h
  split at h
  · cases h
  · rename_i he
    obtain ⟨h1, h2⟩ := end_le hi hb (Decidable.not_not.1 he)
    split at h
    · cases h
      exact take_step hok (by omega) h2 (by rw [ext_size]; omega)
    · split at h
      · cases h
      · rename_i l hl
        injection h with h
        subst h
        obtain ⟨l1, l2⟩ := hrec _ _ _ hl
        rw [ext_size] at l1 l2
        obtain ⟨E, hE⟩ : ∃ E, (endM s i kk (k != 0)).next = E := ⟨_, rfl⟩
        rw [hE] at h1 h2 l1 l2 ⊢
        by_cases h0 : l.length = 0
        · rw [if_pos h0]
          have hf := fold_m l (take_ok st ⟨#[]⟩ true)
          have ht := take_m hok ⟨#[]⟩ true
          have hz : (⟨#[]⟩ : ByteArray).size = 0 := rfl
          rw [hz] at ht
          exact ⟨by show i < E; omega, h2, by dsimp only; omega, by dsimp only; omega, hf.2.2⟩
        · rw [if_neg h0]
          have hf := fold_m l hok
          exact ⟨by show i < E; omega, h2, by dsimp only; omega, by dsimp only; omega, hf.2.2⟩
theorem step_ok (hrec : RecOk rec) {r : Nat × St} (hi : i < s.size) (h : stepM rec s k kk i st = .ok r) : StepOk s i st r := by
  unfold stepM at h
  split at h
  · cases h
    exact bs_step hok hi
  · split at h
    · cases h
    · split at h
      · rename_i hq
        refine quotes_step hok hrec hi ?_ h
        unfold begM
        rw [hq.2]
        rcases hq.1 with e | e <;> rw [e] <;> rfl
      · split at h
        · exact dollar_step hok hi ‹_› h
        · split at h
          · cases h
            exact part_step (by omega) (by omega) (by exact (by decide : (5 : Nat) ≠ 1))
          · cases h
            exact take_step hok (by omega) (by omega) (by rw [ext_size]; omega)
end
theorem run_inv {f : Nat → St → Except Nat (Nat × St)} {s : ByteArray} (hf : ∀ i st r, st.ok → i < s.size → f i st = .ok r → StepOk s i st r) : ∀ (n i : Nat) (st r : St), st.ok → i ≤ s.size → runM f s.size n i st = .ok r → r.m1 + i ≤ st.m1 + s.size ∧ r.m2 + i ≤ st.m2 + s.size ∧ r.ok
  | 0, i, st, r, hok, hi, h => by
    cases h
    exact ⟨by omega, by omega, hok⟩
  | n + 1, i, st, r, hok, hi, h => by
    unfold runM at h
    split at h
    · rename_i hlt
      split at h
      · cases h
      · rename_i r1 hr1
        obtain ⟨h1, h2, h3, h4, h5⟩ := hf i st r1 hok hlt hr1
        have := run_inv hf n r1.1 r1.2 r h5 h2 h
        exact ⟨by omega, by omega, this.2.2⟩
    · cases h
      exact ⟨by omega, by omega, hok⟩
theorem over_ok {rec : Rec} (hrec : RecOk rec) (kk : Nat) : RecOk (overM rec kk) := by
  intro s k l h
  unfold overM at h
  split at h
  · cases h
  · rename_i st hst
    cases h
    obtain ⟨h1, h2, h3⟩ := run_inv (fun i st r hok hi h => step_ok hok hrec hi h) _ _ _ _ (fun _ => ⟨rfl, rfl⟩) (Nat.zero_le _) hst
    have hc := close_m st
    have e1 : st0.m1 = 0 := rfl
    have e2 : st0.m2 = 0 := rfl
    rw [e1] at h1
    rw [e2] at h2
    have h4 := m1_ge st.close
    have h5 : litTot st.close.ps ≤ st.close.m2 := by unfold St.m2; omega
    exact ⟨by omega, by omega⟩
theorem parts_ok : ∀ kk, RecOk (partsM kk)
  | 0 => over_ok (fun _ _ _ h => by cases h) 0
  | kk + 1 => over_ok (parts_ok kk) (kk + 1)
end Go.Proofs.Ytgpkhpheomaiaaa
