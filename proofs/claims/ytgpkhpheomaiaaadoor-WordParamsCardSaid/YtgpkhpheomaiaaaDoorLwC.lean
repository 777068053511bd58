/- The law WordDoubles. No condition. -/
import Derived.Test.YtgpkhpheomaiaaaDoorStA
namespace Go.Proofs.YtgpkhpheomaiaaaDoor
open Go.RowKit Go.PlainAid
attribute [local go_sem] Oper.semAt_some

def PlainC (c : Int) : Prop := c ≠ 36 ∧ c ≠ 92 ∧ c ≠ 34 ∧ c ≠ 96
theorem mk_data (s : ByteArray) : (⟨s.data.toList.toArray⟩ : ByteArray) = s := by cases s; simp
theorem ext_one {s : ByteArray} {i : Nat} : s.data.toList.take i ++ (s.extract i (i + 1)).data.toList = s.data.toList.take (i + 1) := by
  rw [Lib.extract_data, show i + 1 - i = 1 by omega, ← List.take_add]
section
variable {rec : Rec} {s : ByteArray} {k : Int} {kk i : Nat} {st : St}
theorem step_plain (hk : k ≠ 0) (h : PlainC (bt s i)) : stepM rec s k kk i st = .ok (i + 1, st.take (s.extract i (i + 1)) true) := by
  obtain ⟨h1, h2, h3, h4⟩ := h
  unfold stepM
  rw [if_neg h2, if_neg h4, if_neg (fun h => hk h.2), if_neg h1, if_neg (fun h => hk h.2.2.1), show (k != 0) = true by simpa using hk]
theorem take_open {ps : List PT} {bs : List UInt8} {x : ByteArray} : (⟨ps, bs, true, true⟩ : St).take x true = ⟨ps, bs ++ x.data.toList, true, true⟩ := rfl
theorem run_plain (hk : k ≠ 0) (hp : ∀ j, j < s.size → PlainC (bt s j)) : ∀ n i, s.size ≤ n + i → i ≤ s.size → runM (stepM rec s k kk) s.size n i ⟨[], s.data.toList.take i, true, true⟩ = .ok ⟨[], s.data.toList, true, true⟩
  | 0, i, h1, h2 => by
    rw [List.take_of_length_le (by rw [← Lib.size_eq]; omega)]; rfl
  | n + 1, i, h1, h2 => by
    by_cases hi : i < s.size
    · rw [run_on hi (step_plain hk (hp i hi)), take_open]
      show runM _ _ n (i + 1) ⟨[], s.data.toList.take i ++ (s.extract i (i + 1)).data.toList, true, true⟩ = _
      rw [ext_one]
      exact run_plain hk hp n (i + 1) (by omega) hi
    · rw [run_stop hi, List.take_of_length_le (by rw [← Lib.size_eq]; omega)]
theorem over_plain (hk : k ≠ 0) (hp : ∀ j, j < s.size → PlainC (bt s j)) : overM rec kk s k = .ok (if s.size = 0 then [] else [litT s.data.toList true]) := by
  unfold overM
  cases hz : s.size with
  | zero => rfl
  | succ m =>
    have h0 : 0 < s.size := by omega
    have hr : runM (stepM rec s k kk) s.size (m + 1) 0 st0 = .ok ⟨[], s.data.toList, true, true⟩ := by
      rw [run_on h0 (step_plain hk (hp 0 h0))]
      show runM _ _ m 1 ⟨[], [] ++ (s.extract 0 (0 + 1)).data.toList, true, true⟩ = _
      have := ext_one (s := s) (i := 0)
      rw [List.take_zero] at this
      rw [this]
      exact run_plain hk hp m 1 (by omega) (by omega)
    rw [← hz, show runM (stepM rec s k kk) s.size s.size 0 st0 = runM (stepM rec s k kk) s.size (m + 1) 0 st0 by rw [hz], hr, if_neg (by omega)]
    rfl
end

theorem bt_left {a b : ByteArray} {i : Nat} (h : i < a.size) : bt (a ++ b) i = bt a i := by
  unfold bt
  rw [dif_pos (by rw [ByteArray.size_append]; omega), dif_pos h, ByteArray.getElem_append_left h]
theorem bt_right {a b : ByteArray} {i : Nat} (h : a.size ≤ i) : bt (a ++ b) i = bt b (i - a.size) := by
  unfold bt
  by_cases hi : i < (a ++ b).size
  · have hb : i - a.size < b.size := by rw [ByteArray.size_append] at hi; omega
    rw [dif_pos hi, dif_pos hb, ByteArray.getElem_append_right h]
  · have hb : ¬ i - a.size < b.size := by rw [ByteArray.size_append] at hi; omega
    rw [dif_neg hi, dif_neg hb]
theorem data_app (a b : ByteArray) : (a ++ b).data.toList = a.data.toList ++ b.data.toList := by rw [ByteArray.data_append]; simp

/-- A text within double quotes. -/
abbrev dqT (s : ByteArray) : ByteArray := ⟨#[34]⟩ ++ s ++ ⟨#[34]⟩
theorem dq_size (s : ByteArray) : (dqT s).size = s.size + 2 := by
  rw [ByteArray.size_append, ByteArray.size_append]; show 1 + s.size + 1 = _; omega
theorem dq_first (s : ByteArray) : bt (dqT s) 0 = 34 := by
  rw [bt_left (by rw [ByteArray.size_append]; show 0 < 1 + s.size; omega), bt_left (by decide)]; decide
theorem dq_mid (s : ByteArray) {j : Nat} (h : j < s.size) : bt (dqT s) (j + 1) = bt s j := by
  rw [bt_left (by rw [ByteArray.size_append]; show j + 1 < 1 + s.size; omega), bt_right (by show 1 ≤ j + 1; omega)]; rfl
theorem dq_last (s : ByteArray) : bt (dqT s) (s.size + 1) = 34 := by
  have hz : ((⟨#[34]⟩ : ByteArray) ++ s).size = s.size + 1 := by rw [ByteArray.size_append]; show 1 + s.size = _; omega
  rw [bt_right (by omega), hz, Nat.sub_self]; decide
theorem dq_between (s : ByteArray) : (dqT s).extract 1 ((dqT s).size - 1) = s := by
  apply toList_inj
  rw [Lib.toList_data, Lib.toList_data, Lib.extract_data, dq_size, data_app, data_app]
  show ((([34] : List UInt8) ++ s.data.toList ++ [34]).drop 1).take (s.size + 2 - 1 - 1) = _
  rw [List.append_assoc, List.singleton_append, List.drop_one, List.tail_cons, show s.size + 2 - 1 - 1 = s.data.toList.length by rw [← Lib.size_eq]; omega, List.take_left]
theorem pIn_plain {t : ByteArray} {k j : Nat} (h : PlainC (bt t j)) : pIn t k true j = ⟨j + 1, 0, 0⟩ := by
  obtain ⟨h1, h2, h3, h4⟩ := h
  have f : ∀ {c : Int}, bt t j ≠ c → (bt t j == c) = false := fun h => beq_eq_false_iff_ne.2 h
  have hb : begM t j true = false := by
    unfold begM
    rw [f h3, f h1]
    split <;> rfl
  unfold pIn passM
  rw [f h2, f h4, hb]
  rfl
theorem dq_loop (s : ByteArray) (hp : ∀ j, j < s.size → PlainC (bt s j)) (k : Nat) : ∀ f j, s.size + 2 ≤ f + (j + 1) → j ≤ s.size → loopM (pIn (dqT s) k true) (dqT s) 0 34 f (j + 1) = ⟨s.size + 2, 0, 0⟩
  | 0, j, h1, h2 => by omega
  | f + 1, j, h1, h2 => by
    have hz := dq_size s
    by_cases hj : j = s.size
    · subst hj
      rw [loop_done (by omega) (by rw [dq_last]; rfl)]
    · have hlt : j < s.size := by omega
      have hpl : PlainC (bt (dqT s) (j + 1)) := by rw [dq_mid s hlt]; exact hp j hlt
      rw [loop_on (by omega) (beq_eq_false_iff_ne.2 hpl.2.2.1) (pIn_plain hpl) rfl]
      exact dq_loop s hp k f (j + 1) (by omega) hlt
theorem dq_end (s : ByteArray) (hp : ∀ j, j < s.size → PlainC (bt s j)) : endM (dqT s) 0 24 false = ⟨s.size + 2, 0, 0⟩ := by
  have h39 : (bt (dqT s) 0 == 39) = false := by rw [dq_first]; rfl
  have h34 : (bt (dqT s) 0 == 34) = true := by rw [dq_first]; rfl
  have hb : begM (dqT s) 0 false = true := by unfold begM; rw [h39, h34]; rfl
  unfold endM
  rw [if_pos hb, whole_double h39 h34]
  exact dq_loop s hp 23 _ 0 (by rw [dq_size]; omega) (Nat.zero_le _)
theorem dq_parts (s : ByteArray) (hp : ∀ j, j < s.size → PlainC (bt s j)) : topM (dqT s) 0 = .ok [litT s.data.toList true] := by
  have hz := dq_size s
  have hE := dq_end s hp
  have hq : quotesM (partsM 23) (dqT s) 0 24 0 st0 = .ok (s.size + 2, ⟨[], s.data.toList, true, true⟩) := by
    unfold quotesM
    rw [show ((0 : Int) != 0) = false from rfl, hE, if_neg (fun h => h rfl), if_neg (by rw [dq_first]; decide)]
    have hbt : (dqT s).extract (0 + 1) (s.size + 2 - 1) = s := by have := dq_between s; rw [hz] at this; exact this
    have hx : partsM 23 ((dqT s).extract (0 + 1) ((⟨s.size + 2, 0, 0⟩ : R3).next - 1)) 1 = .ok (if s.size = 0 then [] else [litT s.data.toList true]) := by
      show partsM 23 ((dqT s).extract (0 + 1) (s.size + 2 - 1)) 1 = _
      rw [hbt, show partsM 23 s 1 = overM (partsM 22) 23 s 1 from rfl, over_plain (by decide) hp]
    rw [hx]
    by_cases h0 : s.size = 0
    · have hd : s.data.toList = [] := by rw [Lib.size_eq] at h0; exact List.eq_nil_of_length_eq_zero h0
      rw [if_pos h0, hd]; rfl
    · rw [if_neg h0]
      show Except.ok (_, addM st0 (litT s.data.toList true)) = _
      have : addM st0 (litT s.data.toList true) = ⟨[], s.data.toList, true, true⟩ := by
        show (⟨[], [] ++ (⟨s.data.toList.toArray⟩ : ByteArray).data.toList, true, true⟩ : St) = _
        simp
      rw [this]
  unfold topM
  rw [if_pos (.inl rfl), show partsM 24 (dqT s) 0 = overM (partsM 23) 24 (dqT s) 0 from rfl]
  unfold overM
  have hst : stepM (partsM 23) (dqT s) 0 24 0 st0 = .ok (s.size + 2, ⟨[], s.data.toList, true, true⟩) := by
    unfold stepM
    rw [if_neg (by rw [dq_first]; decide), if_neg (by rw [dq_first]; decide), if_pos ⟨.inr (dq_first s), rfl⟩]
    exact hq
  have hrun : runM (stepM (partsM 23) (dqT s) 0 24) (dqT s).size (dqT s).size 0 st0 = .ok ⟨[], s.data.toList, true, true⟩ := by
    rw [show runM (stepM (partsM 23) (dqT s) 0 24) (dqT s).size (dqT s).size 0 st0 = runM (stepM (partsM 23) (dqT s) 0 24) (dqT s).size ((s.size + 1) + 1) 0 st0 by rw [hz], run_on (by omega) hst, run_stop (by rw [hz]; show ¬ s.size + 2 < s.size + 2; omega)]
  rw [hrun]
  rfl
theorem body_parts (s : ByteArray) (hp : ∀ j, j < s.size → PlainC (bt s j)) : ∃ l, topM s 2 = .ok l ∧ litsM l = some s.data.toList ∧ litTot l ≤ s.size ∧ l.length ≤ 1 := by
  refine ⟨if s.size = 0 then [] else [litT s.data.toList true], ?_, ?_, ?_, ?_⟩
  · unfold topM
    rw [if_pos (.inr (.inr rfl)), show partsM 24 s 2 = overM (partsM 23) 24 s 2 from rfl, over_plain (by decide) hp]
  · by_cases h0 : s.size = 0
    · have hd : s.data.toList = [] := by rw [Lib.size_eq] at h0; exact List.eq_nil_of_length_eq_zero h0
      rw [if_pos h0, hd]; rfl
    · rw [if_neg h0]
      show some (([] : List UInt8) |> ((⟨s.data.toList.toArray⟩ : ByteArray).data.toList ++ ·)) = _
      simp
  · split
    · exact Nat.zero_le _
    · show (⟨s.data.toList.toArray⟩ : ByteArray).size + 0 ≤ _
      rw [mk_data]; omega
  · split
    · exact Nat.zero_le _
    · exact Nat.le_refl _
end Go.Proofs.YtgpkhpheomaiaaaDoor
