/- What is quoted, read as a word: plain functions. No condition. -/
import Derived.Test.YtgpkhpheomaiaaaDoorLwC
import Derived.Test.YtgpkhpheomaiaaaDoorQuo
namespace Go.Proofs.YtgpkhpheomaiaaaDoor
open Go.RowKit Go.PlainAid

theorem bt_get {t : ByteArray} {i : Nat} {c : UInt8} (h : t.data.toList[i]? = some c) : bt t i = c.toNat ∧ i < t.size := by
  obtain ⟨h1, h2⟩ := List.getElem?_eq_some_iff.1 h
  have hlt : i < t.size := by rw [Lib.size_eq]; exact h1
  refine ⟨?_, hlt⟩
  unfold bt
  rw [dif_pos hlt, ← h2]
  rfl
theorem qm_plain {p : List UInt8} (h : ∀ c ∈ p, c ≠ 39) (r : List UInt8) : qm (p ++ r) = p ++ qm r := by
  induction p with
  | nil => rfl
  | cons a p ih =>
    rw [List.cons_append, qm, if_neg (h a (List.mem_cons_self ..)), ih (fun c hc => h c (List.mem_cons_of_mem _ hc))]
    rfl
theorem indexByte_at {p r : List UInt8} {c : UInt8} (h : ∀ x ∈ p, x ≠ c) : Lib.indexByte (p ++ c :: r) c = p.length := by
  induction p with
  | nil => simp [Lib.indexByte]
  | cons a p ih =>
    have ha : a ≠ c := h a (List.mem_cons_self ..)
    have hi := ih (fun x hx => h x (List.mem_cons_of_mem _ hx))
    rw [List.cons_append, Lib.indexByte, if_neg (by simpa using ha), hi]
    have : ((p.length : Int) == -1) = false := by rw [beq_eq_false_iff_ne]; omega
    rw [this]
    simp
/-- A list up to the byte 39, if it has one. -/
theorem split_39 : ∀ r : List UInt8, (∀ c ∈ r, c ≠ 39) ∨ ∃ p r', r = p ++ 39 :: r' ∧ ∀ c ∈ p, c ≠ 39
  | [] => .inl (fun c h => by cases h)
  | a :: r => by
    by_cases ha : a = 39
    · subst ha; exact .inr ⟨[], r, rfl, fun c h => by cases h⟩
    · rcases split_39 r with h | ⟨p, r', rfl, h⟩
      · exact .inl (fun c hc => by
          rcases List.mem_cons.1 hc with rfl | hc
          · exact ha
          · exact h c hc)
      · exact .inr ⟨a :: p, r', rfl, fun c hc => by
          rcases List.mem_cons.1 hc with rfl | hc
          · exact ha
          · exact h c hc⟩
theorem ext_list (t : ByteArray) (a b : Nat) : (t.extract a b).data.toList = (t.data.toList.drop a).take (b - a) := Lib.extract_data ..
section
variable {t : ByteArray} {pre p rest : List UInt8} {kk : Nat}
/-- Where a quote ends. -/
theorem quote_end (ht : t.data.toList = pre ++ 39 :: (p ++ 39 :: rest)) (hp : ∀ c ∈ p, c ≠ 39) : sqM t pre.length = ⟨pre.length + p.length + 2, 0, 0⟩ := by
  have hq : qIdx t pre.length = p.length := by
    unfold qIdx
    rw [ext_list, ht, show pre.length + 1 = (pre ++ [39]).length by simp, show pre ++ 39 :: (p ++ 39 :: rest) = (pre ++ [39]) ++ (p ++ 39 :: rest) by simp, List.drop_left, List.take_of_length_le, indexByte_at hp]
    rw [Lib.size_eq, ht]; simp; omega
  unfold sqM
  rw [hq, if_pos (by omega)]
  have : ((p.length : Int)).toNat = p.length := by omega
  rw [this]
  congr 1
  omega
theorem quote_first (ht : t.data.toList = pre ++ 39 :: rest) : bt t pre.length = 39 ∧ pre.length < t.size := by
  have := bt_get (t := t) (i := pre.length) (c := 39) (by rw [ht]; simp)
  exact this
theorem step_single {rec : Rec} {st : St} (ht : t.data.toList = pre ++ 39 :: (p ++ 39 :: rest)) (hp : ∀ c ∈ p, c ≠ 39) : stepM rec t 0 kk pre.length st = .ok (pre.length + p.length + 2, st.take ⟨p.toArray⟩ true) := by
  obtain ⟨h39, hlt⟩ := quote_first ht
  have hE : endM t pre.length kk ((0 : Int) != 0) = ⟨pre.length + p.length + 2, 0, 0⟩ := by
    unfold endM
    have hb : begM t pre.length ((0 : Int) != 0) = true := by unfold begM; rw [h39]; rfl
    rw [if_pos hb, whole_single (by rw [h39]; rfl)]
    exact quote_end ht hp
  have hx : t.extract (pre.length + 1) (pre.length + p.length + 2 - 1) = ⟨p.toArray⟩ := by
    apply toList_inj
    rw [Lib.toList_data, Lib.toList_data, ext_list, ht, show pre.length + 1 = (pre ++ [39]).length by simp, show pre ++ 39 :: (p ++ 39 :: rest) = (pre ++ [39]) ++ (p ++ 39 :: rest) by simp, List.drop_left, show pre.length + p.length + 2 - 1 - List.length (α := UInt8) (pre ++ [39]) = p.length by rw [List.length_append]; show pre.length + p.length + 2 - 1 - (pre.length + 1) = _; omega, List.take_left]
  unfold stepM
  rw [if_neg (by rw [h39]; decide), if_neg (by rw [h39]; decide), if_pos ⟨.inl h39, rfl⟩]
  unfold quotesM
  rw [hE, if_neg (fun h => h rfl), if_pos h39]
  show Except.ok (_, st.take (t.extract (pre.length + 1) (pre.length + p.length + 2 - 1)) true) = _
  rw [hx]
theorem step_back {rec : Rec} {st : St} (ht : t.data.toList = pre ++ 92 :: 39 :: rest) : stepM rec t 0 kk pre.length st = .ok (pre.length + 2, st.take ⟨#[39]⟩ true) := by
  have h1 := bt_get (t := t) (i := pre.length) (c := 92) (by rw [ht]; simp)
  have h2 := bt_get (t := t) (i := pre.length + 1) (c := 39) (by rw [ht, List.getElem?_append_right (by omega), show pre.length + 1 - pre.length = 1 by omega]; rfl)
  have h92 : bt t pre.length = 92 := h1.1
  have h39 : bt t (pre.length + 1) = 39 := h2.1
  have hx : t.extract (pre.length + 1) (pre.length + 2) = ⟨#[39]⟩ := by
    apply toList_inj
    rw [Lib.toList_data, Lib.toList_data, ext_list, ht, show pre.length + 1 = (pre ++ [92]).length by simp, show pre ++ 92 :: 39 :: rest = (pre ++ [92]) ++ (39 :: rest) by simp, List.drop_left, show pre.length + 2 - List.length (α := UInt8) (pre ++ [92]) = 1 by rw [List.length_append]; show pre.length + 2 - (pre.length + 1) = _; omega]
    rfl
  unfold stepM
  rw [if_pos h92]
  unfold bsM
  rw [if_neg (by omega), if_neg (by rw [h39]; decide), if_pos (.inl rfl), hx]
end
/-- Reading on from a quote: all that was quoted is one literal. -/
theorem run_quoted (rec : Rec) (t : ByteArray) (kk : Nat) : ∀ (m : Nat) (r pre acc : List UInt8) (st : St) (n : Nat), r.length ≤ m → t.data.toList = pre ++ 39 :: (qm r ++ [39]) → (∀ x : ByteArray, st.take x true = ⟨[], acc ++ x.data.toList, true, true⟩) → t.size ≤ n + pre.length →
    runM (stepM rec t 0 kk) t.size n pre.length st = .ok ⟨[], acc ++ r, true, true⟩ := by
  intro m
  induction m with
  | zero =>
    intro r pre acc st n hm ht hst hn
    obtain rfl : r = [] := List.eq_nil_of_length_eq_zero (by omega)
    have ht' : t.data.toList = pre ++ 39 :: ([] ++ 39 :: []) := ht
    have hz : t.size = pre.length + 2 := by rw [Lib.size_eq, ht']; first | (simp; done) | (simp; omega)
    obtain ⟨n, rfl⟩ : ∃ k, n = k + 1 := ⟨n - 1, by omega⟩
    rw [run_on (by omega) (step_single ht' (fun c h => by cases h)), run_stop (by show ¬ pre.length + 0 + 2 < _; omega), hst]
  | succ m ih =>
    intro r pre acc st n hm ht hst hn
    rcases split_39 r with hr | ⟨p, r', rfl, hp⟩
    · have hq : qm r = r := by have := qm_plain hr []; simpa [qm] using this
      have ht' : t.data.toList = pre ++ 39 :: (r ++ 39 :: []) := by rw [ht, hq]
      have hz : t.size = pre.length + r.length + 2 := by rw [Lib.size_eq, ht']; first | (simp; done) | (simp; omega)
      obtain ⟨n, rfl⟩ : ∃ k, n = k + 1 := ⟨n - 1, by omega⟩
      rw [run_on (by omega) (step_single ht' hr), run_stop (by show ¬ pre.length + r.length + 2 < _; omega), hst]
    · have hq : qm (p ++ 39 :: r') = p ++ 39 :: (92 :: 39 :: 39 :: qm r') := by rw [qm_plain hp, qm, if_pos rfl]; rfl
      have ht1 : t.data.toList = pre ++ 39 :: (p ++ 39 :: (92 :: 39 :: 39 :: (qm r' ++ [39]))) := by rw [ht, hq]; simp
      have ht2 : t.data.toList = (pre ++ 39 :: (p ++ [39])) ++ 92 :: 39 :: (39 :: (qm r' ++ [39])) := by rw [ht1]; simp
      have ht3 : t.data.toList = (pre ++ 39 :: (p ++ [39, 92, 39])) ++ 39 :: (qm r' ++ [39]) := by rw [ht1]; simp
      have l2 : (pre ++ 39 :: (p ++ [39])).length = pre.length + p.length + 2 := by first | (simp; done) | (simp; omega)
      have l3 : (pre ++ 39 :: (p ++ [39, 92, 39])).length = pre.length + p.length + 2 + 2 := by first | (simp; done) | (simp; omega)
      have hz : pre.length + p.length + 5 < t.size := by rw [Lib.size_eq, ht1]; first | (simp; done) | (simp; omega)
      obtain ⟨n, rfl⟩ : ∃ k, n = k + 1 + 1 := ⟨n - 2, by omega⟩
      rw [run_on (by omega) (step_single ht1 hp)]
      show runM (stepM rec t 0 kk) t.size (n + 1) (pre.length + p.length + 2) (st.take ⟨p.toArray⟩ true) = _
      rw [← l2, run_on (by rw [l2]; omega) (step_back ht2)]
      show runM (stepM rec t 0 kk) t.size n ((pre ++ 39 :: (p ++ [39])).length + 2) ((st.take ⟨p.toArray⟩ true).take ⟨#[39]⟩ true) = _
      rw [l2, ← l3, hst]
      have := ih r' (pre ++ 39 :: (p ++ [39, 92, 39])) (acc ++ p ++ [39]) ((⟨[], acc ++ (⟨p.toArray⟩ : ByteArray).data.toList, true, true⟩ : St).take ⟨#[39]⟩ true) n (by simp at hm; omega) ht3 (fun x => by
        rw [take_open, take_open]) (by rw [l3]; omega)
      rw [this]
      simp
theorem quoted_list (s : ByteArray) : (quoted s).data.toList = [] ++ 39 :: (qm s.data.toList ++ [39]) := by
  unfold quoted
  rw [data_app, data_app]
  show [39] ++ (qmS s).data.toList ++ [39] = _
  unfold qmS
  simp
theorem over_quoted (rec : Rec) (kk : Nat) (s : ByteArray) : overM rec kk (quoted s) 0 = .ok [litT s.data.toList true] := by
  unfold overM
  have := run_quoted rec (quoted s) kk _ s.data.toList [] [] st0 (quoted s).size (Nat.le_refl _) (quoted_list s) (fun x => rfl) (by simp)
  rw [List.length_nil] at this
  rw [this]
  rfl
/-- A byte that stands for itself in a word. -/
def SafeC (c : Int) : Prop := c ≠ 36 ∧ c ≠ 92 ∧ c ≠ 34 ∧ c ≠ 96 ∧ c ≠ 39 ∧ c ≠ 126
section
variable {rec : Rec} {s : ByteArray} {kk i : Nat} {st : St}
theorem step_safe (h : SafeC (bt s i)) : stepM rec s 0 kk i st = .ok (i + 1, st.take (s.extract i (i + 1)) false) := by
  obtain ⟨h1, h2, h3, h4, h5, h6⟩ := h
  unfold stepM
  rw [if_neg h2, if_neg h4, if_neg (fun h => h.1.elim h5 h3), if_neg h1, if_neg (fun h => h6 h.1)]
  rfl
theorem take_shut {ps : List PT} {bs : List UInt8} {x : ByteArray} : (⟨ps, bs, false, true⟩ : St).take x false = ⟨ps, bs ++ x.data.toList, false, true⟩ := rfl
theorem run_safe (hp : ∀ j, j < s.size → SafeC (bt s j)) : ∀ n i, s.size ≤ n + i → i ≤ s.size → runM (stepM rec s 0 kk) s.size n i ⟨[], s.data.toList.take i, false, true⟩ = .ok ⟨[], s.data.toList, false, true⟩
  | 0, i, h1, h2 => by
    rw [List.take_of_length_le (by rw [← Lib.size_eq]; omega)]; rfl
  | n + 1, i, h1, h2 => by
    by_cases hi : i < s.size
    · rw [run_on hi (step_safe (hp i hi)), take_shut]
      show runM _ _ n (i + 1) ⟨[], s.data.toList.take i ++ (s.extract i (i + 1)).data.toList, false, true⟩ = _
      rw [ext_one]
      exact run_safe hp n (i + 1) (by omega) hi
    · rw [run_stop hi, List.take_of_length_le (by rw [← Lib.size_eq]; omega)]
theorem over_safe (h0 : s.size ≠ 0) (hp : ∀ j, j < s.size → SafeC (bt s j)) : overM rec kk s 0 = .ok [litT s.data.toList false] := by
  unfold overM
  cases hz : s.size with
  | zero => exact absurd hz h0
  | succ m =>
    have h0 : 0 < s.size := by omega
    have hr : runM (stepM rec s 0 kk) s.size (m + 1) 0 st0 = .ok ⟨[], s.data.toList, false, true⟩ := by
      rw [run_on h0 (step_safe (hp 0 h0))]
      show runM _ _ m 1 ⟨[], [] ++ (s.extract 0 (0 + 1)).data.toList, false, true⟩ = _
      have := ext_one (s := s) (i := 0)
      rw [List.take_zero] at this
      rw [this]
      exact run_safe hp m 1 (by omega) (by omega)
    rw [← hz, show runM (stepM rec s 0 kk) s.size s.size 0 st0 = runM (stepM rec s 0 kk) s.size (m + 1) 0 st0 by rw [hz], hr]
    rfl
end
theorem safe_char {s : ByteArray} (h : isSafe s = true) : s.size ≠ 0 ∧ ∀ j, j < s.size → SafeC (bt s j) := by
  unfold isSafe at h
  rw [Bool.and_eq_true] at h
  refine ⟨of_decide_eq_true h.1, fun j hj => ?_⟩
  have hk := of_decide_eq_true h.2 j hj
  have key : ∀ c : Int, c = 36 ∨ c = 92 ∨ c = 34 ∨ c = 96 ∨ c = 39 ∨ c = 126 → (letB c || digB c || !decide (idx c < 0)) = false := by
    intro c hc
    rcases hc with rfl | rfl | rfl | rfl | rfl | rfl <;> decide
  unfold safeOk at hk
  refine ⟨?_, ?_, ?_, ?_, ?_, ?_⟩ <;> intro e <;> rw [key _ (by rw [e]; decide)] at hk <;> cases hk
/-- What octet's Quote makes of a text. -/
def quoT (s : ByteArray) : ByteArray := if isSafe s = true then s else quoted s
theorem over_quo (rec : Rec) (kk : Nat) (s : ByteArray) : ∃ q, overM rec kk (quoT s) 0 = .ok [litT s.data.toList q] := by
  unfold quoT
  split
  · rename_i h
    obtain ⟨h0, hp⟩ := safe_char h
    exact ⟨false, over_safe h0 hp⟩
  · exact ⟨true, over_quoted rec kk s⟩
theorem quo_top (s : ByteArray) : ∃ q, topM (quoT s) 0 = .ok [litT s.data.toList q] := by
  obtain ⟨q, h⟩ := over_quo (partsM 23) 24 s
  exact ⟨q, by unfold topM; rw [if_pos (.inl rfl)]; exact h⟩
theorem quoT_size (s : ByteArray) : (quoT s).size ≤ 4 * s.size + 2 := by
  unfold quoT
  split
  · omega
  · unfold quoted
    rw [ByteArray.size_append, ByteArray.size_append]
    have := qmS_size s
    show 1 + (qmS s).size + 1 ≤ _
    omega
theorem lits_one (l : List UInt8) (q : Bool) : litsM [litT l q] = some l := by
  show some ((⟨l.toArray⟩ : ByteArray).data.toList ++ []) = _
  simp
end Go.Proofs.YtgpkhpheomaiaaaDoor
