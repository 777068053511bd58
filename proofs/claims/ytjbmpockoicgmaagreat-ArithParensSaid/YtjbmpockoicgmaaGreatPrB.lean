/- What a text within parentheses is worth, and its tokens. No condition. -/
import Derived.Test.YtjbmpockoicgmaaGreatPrA
namespace Go.Proofs.YtjbmpockoicgmaaGreat
open Go.RowKit Go.PlainAid
set_option linter.unusedVariables false
set_option linter.unusedSimpArgs false
set_option linter.unusedSectionVars false
def lpT : Tk := ⟨3, ⟨#[40]⟩, 0⟩
theorem lp_l : lpT.text.toList = [40] := by kernel_rfl
section
variable {T σ : Type} (M : Mk T σ)
theorem work_par {p : List Tk} {x : Tk} {m : σ} (hp : p ≠ []) (hall : ∀ t ∈ p, t.kind ≠ 0 ∧ t.kind ≠ 4) (hk : x.kind = 0 ∨ x.kind = 4) (hx : x.text = noT) (h : (workM M (p ++ [x]) m).2.1 = 0) :
    x.kind = 0 ∧ ((workM M (lpT :: (p ++ rpT :: [tk0])) m).2.1 = 52 ∨ workM M (lpT :: (p ++ rpT :: [tk0])) m = workM M (p ++ [x]) m) := by
  obtain ⟨a, p', rfl⟩ : ∃ a p', p = a :: p' := by
    cases p with
    | nil => exact absurd rfl hp
    | cons a p' => exact ⟨a, p', rfl⟩
  obtain ⟨F, hF⟩ : ∃ F, 6 * (a :: p' ++ [x]).length + 5 + 8 = F := ⟨_, rfl⟩
  obtain ⟨p, hpp⟩ : ∃ p, a :: p' = p := ⟨_, rfl⟩
  have ha0 : ((p ++ [x]).headD tk0).kind ≠ 0 := by rw [← hpp]; exact (hall a (List.mem_cons_self ..)).1
  rw [hpp] at hall h hF ⊢
  have hl : (p ++ [x]).length = p.length + 1 := by simp
  -- the first reading, with more fuel
  have h1 : go M (6 * (p ++ [x]).length + 5) .asg ⟨p ++ [x], 0, 0, 0, m⟩ = go M F .asg ⟨p ++ [x], 0, 0, 0, m⟩ := by
    rw [← hF]
    exact (go_at M (by simp only [cost]; omega) 8).symm
  -- the second one's inner reading
  have hP : Pr 1 x [tk0] (⟨p ++ [x], 0, 0, 0, m⟩ : Ws σ) ⟨p ++ rpT :: [tk0], 1, 0, 0, m⟩ := ⟨rfl, ⟨p, hall, rfl, rfl⟩, rfl, rfl, rfl, rfl⟩
  have h2 := go_par M (Y := [tk0]) hk hx F .asg trivial _ _ hP
  obtain ⟨r, hr⟩ : ∃ r, go M F .asg ⟨p ++ [x], 0, 0, 0, m⟩ = r := ⟨_, rfl⟩
  obtain ⟨r', hr'⟩ : ∃ r', go M F .asg ⟨p ++ rpT :: [tk0], 1, 0, 0, m⟩ = r' := ⟨_, rfl⟩
  rw [hr, hr'] at h2
  have e1 : workM M (p ++ [x]) m = (r.1, (if (peekM r.2).kind = 0 then r.2 else failM 60 r.2).err, (if (peekM r.2).kind = 0 then r.2 else failM 60 r.2).ms) := by
    unfold workM
    rw [if_neg ha0, h1, hr]
  rw [e1] at h ⊢
  have he : r.2.err = 0 := Decidable.byContradiction fun hne => by
    have h : (if (peekM r.2).kind = 0 then r.2 else failM 60 r.2).err = 0 := h
    rw [failM_err hne, ite_self] at h
    exact hne h
  have hp0 : (peekM r.2).kind = 0 := Decidable.byContradiction fun hne => by
    have h : (if (peekM r.2).kind = 0 then r.2 else failM 60 r.2).err = 0 := h
    rw [if_neg hne] at h
    exact fail_no he (by decide) h
  rw [if_pos hp0]
  -- the second reading outside
  have h3 : go M (F + 4) .asg (⟨lpT :: (p ++ rpT :: [tk0]), 0, 0, 0, m⟩ : Ws σ) = go M (F + 3) .cho ⟨lpT :: (p ++ rpT :: [tk0]), 0, 0, 0, m⟩ := by
    conv => lhs; unfold go
    rw [if_neg]
    intro k
    unfold asgs at k
    cases hq : p ++ rpT :: [tk0] with
    | nil => simp at hq
    | cons b q =>
      rw [hq] at k
      exact absurd k (by simp [lpT])
  have h4 : go M (F + 1) .opd (⟨lpT :: (p ++ rpT :: [tk0]), 0, 0, 0, m⟩ : Ws σ) = (r'.1, needM [41] { r'.2 with deep := r'.2.deep - 1 }) := by
    conv => lhs; unfold go
    dsimp only
    rw [show peekM (⟨lpT :: (p ++ rpT :: [tk0]), 0, 0, 0, m⟩ : Ws σ) = lpT from rfl, if_neg (show ¬ lpT.kind = 1 by decide), if_neg (show ¬ lpT.kind = 2 by decide), if_pos lp_l]
    have : deepM (go M F .asg) (nextM (⟨lpT :: (p ++ rpT :: [tk0]), 0, 0, 0, m⟩ : Ws σ)) = (r'.1, { r'.2 with deep := r'.2.deep - 1 }) := by
      unfold deepM
      dsimp only
      rw [if_neg (show ¬ (24 : Int) < (nextM (⟨lpT :: (p ++ rpT :: [tk0]), 0, 0, 0, m⟩ : Ws σ)).deep + 1 by show ¬ (24 : Int) < 0 + 1; omega)]
      show ((go M F .asg ⟨p ++ rpT :: [tk0], 1, 0, 0, m⟩).1, _) = _
      rw [show (⟨(nextM (⟨lpT :: (p ++ rpT :: [tk0]), 0, 0, 0, m⟩ : Ws σ)).toks, (nextM (⟨lpT :: (p ++ rpT :: [tk0]), 0, 0, 0, m⟩ : Ws σ)).deep + 1, (nextM (⟨lpT :: (p ++ rpT :: [tk0]), 0, 0, 0, m⟩ : Ws σ)).idle, (nextM (⟨lpT :: (p ++ rpT :: [tk0]), 0, 0, 0, m⟩ : Ws σ)).err, (nextM (⟨lpT :: (p ++ rpT :: [tk0]), 0, 0, 0, m⟩ : Ws σ)).ms⟩ : Ws σ) = ⟨p ++ rpT :: [tk0], 1, 0, 0, m⟩ from rfl, hr']
    rw [this]
  have hfu : F + 4 = 6 * (lpT :: (p ++ rpT :: [tk0])).length + 5 := by
    have : (lpT :: (p ++ rpT :: [tk0])).length = p.length + 3 := by simp
    omega
  -- the first one's end
  have hx0 : x.kind = 0 := by
    have hP0 : Pr 0 x [tk0] (⟨p ++ [x], 0, 0, 0, m⟩ : Ws σ) ⟨p ++ rpT :: [tk0], 0, 0, 0, m⟩ := ⟨rfl, ⟨p, hall, rfl, rfl⟩, rfl, rfl, rfl, rfl⟩
    have h6 := go_par M (Y := [tk0]) hk hx F .asg trivial _ _ hP0
    rw [hr] at h6
    rcases h6 he with ⟨h6, _⟩ | ⟨_, h6⟩
    · exact absurd h6 (by decide)
    obtain ⟨q, q1, q2, _⟩ := h6.toks
    cases q with
    | nil => have e : peekM r.2 = x := by unfold peekM; rw [q2]; rfl
             rw [← e]; exact hp0
    | cons b q => have e : peekM r.2 = b := by unfold peekM; rw [q2]; rfl
                  rw [e] at hp0
                  exact absurd hp0 (q1 b (List.mem_cons_self ..)).1
  refine ⟨hx0, ?_⟩
  obtain ⟨s1, hs1⟩ : ∃ s1, needM [41] { r'.2 with deep := r'.2.deep - 1 } = s1 := ⟨_, rfl⟩
  rw [hs1] at h4
  have h7 : go M (F + 2) (.bin 3) (⟨lpT :: (p ++ rpT :: [tk0]), 0, 0, 0, m⟩ : Ws σ) = go M (F + 1) (.lop 3 r'.1) s1 := by
    conv => lhs; unfold go
    dsimp only
    rw [h4]
  have h8 : ∀ r0, go M (F + 1) (.lop 3 r'.1) s1 = r0 → isM [63] r0.2 = false → workM M (lpT :: (p ++ rpT :: [tk0])) m = (r0.1, (if (peekM r0.2).kind = 0 then r0.2 else failM 60 r0.2).err, (if (peekM r0.2).kind = 0 then r0.2 else failM 60 r0.2).ms) := fun r0 h9 h10 => by
    unfold workM
    rw [if_neg (show ¬ ((lpT :: (p ++ rpT :: [tk0])).headD tk0).kind = 0 by show ¬ lpT.kind = 0; decide), ← hfu, h3]
    have : go M (F + 3) .cho (⟨lpT :: (p ++ rpT :: [tk0]), 0, 0, 0, m⟩ : Ws σ) = r0 := by
      conv => lhs; unfold go
      dsimp only
      rw [h7, h9, h10, if_neg (by decide)]
    rw [this]
  rcases h2 he with ⟨_, h6⟩ | ⟨h6, h9⟩
  · left
    have hs : s1.err = 52 := by rw [← hs1, needM_err (by show r'.2.err ≠ 0; rw [h6]; decide)]; exact h6
    have he0 : (go M (F + 1) (.lop 3 r'.1) s1).2.err = 52 := (go_err M _ _).at hs (by decide)
    have ht := (go_le (fun _ => 0) M (fun _ _ _ => Nat.zero_le _) (F + 2) (.bin 3) (⟨lpT :: (p ++ rpT :: [tk0]), 0, 0, 0, m⟩ : Ws σ)).err (fun k => absurd rfl k)
    rw [h7] at ht
    have ht := ht (by rw [he0]; decide)
    have hpk : peekM (go M (F + 1) (.lop 3 r'.1) s1).2 = tk0 := by unfold peekM; rw [ht]; rfl
    rw [h8 _ rfl (by unfold isM; rw [hpk]; rfl), hpk]
    exact he0
  · right
    obtain ⟨q, q1, q2, q3⟩ := h9.toks
    have hq : q = [] := by
      cases q with
      | nil => rfl
      | cons b q => have e : peekM r.2 = b := by unfold peekM; rw [q2]; rfl
                    rw [e] at hp0
                    exact absurd hp0 (q1 b (List.mem_cons_self ..)).1
    subst hq
    have hs : s1 = { r'.2 with deep := r'.2.deep - 1, toks := [tk0] } := by
      rw [← hs1]
      unfold needM
      rw [show isM [41] { r'.2 with deep := r'.2.deep - 1 } = true by
        unfold isM
        rw [show peekM { r'.2 with deep := r'.2.deep - 1 } = rpT by unfold peekM; show r'.2.toks.headD tk0 = _; rw [q3]; rfl, rp_l]; rfl, if_pos rfl]
      unfold nextM
      show ({ r'.2 with deep := r'.2.deep - 1, toks := r'.2.toks.tail } : Ws σ) = _
      rw [q3]; rfl
    have h10 : go M (F + 1) (.lop 3 r'.1) s1 = (r'.1, s1) := by
      conv => lhs; unfold go
      rw [if_neg]
      intro k
      rw [hs] at k
      have h0 : ¬ tk0.kind = 3 := by decide
      exact h0 k.1
    rw [h8 _ h10 (by rw [hs]; rfl)]
    dsimp only
    rw [show peekM s1 = tk0 by rw [hs]; rfl, if_pos (show tk0.kind = 0 from rfl), h6, hs]
    show (r.1, r'.2.err, r'.2.ms) = _
    rw [h9.err2, h9.err, h9.ms]
end

/-! ### Its tokens -/
theorem bt_app (t : ByteArray) (u : ByteArray) (k : Nat) (h : k < t.size) : bt (t ++ u) k = bt t k := by
  unfold bt
  rw [dif_pos h, dif_pos (show k < (t ++ u).size by rw [ByteArray.size_append]; omega)]
  show (((t ++ u).data[k]'_).toNat : Int) = (((t.data[k]'_)).toNat : Int)
  simp only [ByteArray.data_append]
  rw [Array.getElem_append_left h]
theorem ext_app (t u : ByteArray) (a b : Nat) (h : b ≤ t.size) : (t ++ u).extract a b = t.extract a b := by
  apply ByteArray.ext
  simp only [ByteArray.data_extract, ByteArray.data_append]
  rw [Array.extract_append, show u.data.extract (a - t.data.size) (b - t.data.size) = #[] by
    have : b - t.data.size = 0 := by show b - t.size = 0; omega
    rw [this]; simp, Array.append_empty]
def rpB : ByteArray := ⟨#[41]⟩
def lpB : ByteArray := ⟨#[40]⟩
theorem bt_at (t : ByteArray) (k : Nat) (b : UInt8) (h : t.data[k]? = some b) : bt t k = (b.toNat : Int) := by
  obtain ⟨hk, hb⟩ := Array.getElem?_eq_some_iff.1 h
  unfold bt
  rw [dif_pos (show k < t.size from hk)]
  show ((t.data[k]'hk).toNat : Int) = _
  rw [hb]
theorem bt_end (t : ByteArray) : bt (t ++ rpB) t.size = 41 := bt_at _ _ 41 (by
  rw [ByteArray.data_append]
  show (t.data ++ #[41])[t.data.size]? = some 41
  rw [show t.data ++ #[41] = t.data.push 41 by simp]
  exact Array.getElem?_push_size)
theorem sz_rp (t : ByteArray) : (t ++ rpB).size = t.size + 1 := by rw [ByteArray.size_append]; rfl
theorem ext_rp (t : ByteArray) (a : Nat) (ha : a ≤ t.size) : (t ++ rpB).extract a (t ++ rpB).size = t.extract a t.size ++ rpB := by
  apply ByteArray.ext
  simp only [ByteArray.data_extract, ByteArray.data_append, Array.extract_append]
  rw [sz_rp]
  congr 1
  · apply Array.ext'
    simp only [Array.toList_extract]
    show List.extract _ _ _ = List.extract _ _ _
    rw [List.extract_eq_take_drop, List.extract_eq_take_drop]
    rw [List.take_of_length_le, List.take_of_length_le]
    · rw [List.length_drop]; show t.size - a ≤ _; omega
    · rw [List.length_drop]; show t.size - a ≤ _; omega
  · show rpB.data.extract (a - t.size) (t.size + 1 - t.size) = rpB.data
    rw [show a - t.size = 0 by omega, show t.size + 1 - t.size = 1 by omega]
    rfl
/-! Numbers, names and operators end where the parenthesis stands. -/
theorem numRun_rp (t : ByteArray) (b : Int) (hb : b ≤ 16) : ∀ f g k n, t.size - k ≤ f → t.size - k < g → k ≤ t.size → numRun (t ++ rpB) b g k n = numRun t b f k n
  | f, 0, k, n, _, h, _ => by omega
  | 0, g + 1, k, n, h1, h2, h3 => by
    have e : k = t.size := by omega
    subst e
    unfold numRun
    rw [if_neg]
    rintro ⟨_, h⟩
    rw [bt_end] at h
    have : digV 41 = 16 := by decide
    omega
  | f + 1, g + 1, k, n, h1, h2, h3 => by
    unfold numRun
    by_cases hk : k < t.size
    · rw [bt_app t rpB k hk]
      by_cases hc : digV (bt t k) < b
      · rw [if_pos ⟨by rw [sz_rp]; omega, hc⟩, if_pos ⟨hk, hc⟩]
        exact numRun_rp t b hb f g _ _ (by omega) (by omega) (by omega)
      · rw [if_neg (fun e => hc e.2), if_neg (fun e => hc e.2)]
    · have e : k = t.size := by omega
      subst e
      rw [if_neg, if_neg (fun e => hk e.1)]
      rintro ⟨_, h⟩
      rw [bt_end] at h
      have : digV 41 = 16 := by decide
      omega
theorem partRun_rp (t : ByteArray) : ∀ f g k, t.size - k ≤ f → t.size - k < g → k ≤ t.size → partRun (t ++ rpB) g k = partRun t f k
  | f, 0, k, _, h, _ => by omega
  | 0, g + 1, k, h1, h2, h3 => by
    have e : k = t.size := by omega
    subst e
    unfold partRun
    rw [if_neg]
    rintro ⟨_, h⟩
    rw [bt_end] at h
    exact absurd h (by decide)
  | f + 1, g + 1, k, h1, h2, h3 => by
    unfold partRun
    by_cases hk : k < t.size
    · rw [bt_app t rpB k hk]
      by_cases hc : partB (bt t k) = true
      · rw [if_pos ⟨by rw [sz_rp]; omega, hc⟩, if_pos ⟨hk, hc⟩]
        exact partRun_rp t f g _ (by omega) (by omega) (by omega)
      · rw [if_neg (fun e => hc e.2), if_neg (fun e => hc e.2)]
    · have e : k = t.size := by omega
      subst e
      rw [if_neg, if_neg (fun e => hk e.1)]
      rintro ⟨_, h⟩
      rw [bt_end] at h
      exact absurd h (by decide)
theorem hexB_rp (t : ByteArray) (h : 0 < t.size) : hexB (t ++ rpB) = hexB t := by
  unfold hexB
  by_cases h2 : 2 < t.size
  · rw [bt_app t rpB 0 (by omega), bt_app t rpB 1 (by omega), bt_app t rpB 2 h2]
    congr 1
    rw [sz_rp]
    exact propext ⟨fun k => ⟨h2, k.2⟩, fun k => ⟨by omega, k.2⟩⟩
  · rw [decide_eq_false (p := 2 < t.size ∧ _) (fun k => h2 k.1), decide_eq_false]
    rintro ⟨k1, k2, k3, k4⟩
    rw [sz_rp] at k1
    have e : t.size = 2 := by omega
    have := bt_end t
    rw [e] at this
    rw [this] at k4
    exact absurd k4 (by decide)
theorem base_rp (t : ByteArray) (h : 0 < t.size) : baseOf (t ++ rpB) = baseOf t ∧ firstOf (t ++ rpB) = firstOf t ∧ baseOf t ≤ 16 := by
  unfold baseOf firstOf
  rw [hexB_rp t h, bt_app t rpB 0 h]
  refine ⟨?_, rfl, ?_⟩
  · congr 1
    by_cases h0 : bt t 0 = 48
    · rw [if_pos ⟨by rw [sz_rp]; omega, h0⟩, if_pos ⟨h, h0⟩]
    · rw [if_neg (fun e => h0 e.2), if_neg (fun e => h0 e.2)]
  · split
    · decide
    · split <;> decide
theorem numR_rp (t : ByteArray) (h : 0 < t.size) : numR (t ++ rpB) = numR t := by
  obtain ⟨h1, h2, h3⟩ := base_rp t h
  unfold numR
  rw [h1, h2]
  exact numRun_rp t _ h3 _ _ _ _ (by omega) (by rw [sz_rp]; omega) (first_le t)
theorem numM_rp (t : ByteArray) (h : 0 < t.size) : numM (t ++ rpB) = numM t := by
  have hb : numBad (t ++ rpB) = numBad t := by
    have hl : (numR t).1 ≤ t.size := (numRun_le t _ _ _ _ (first_le t)).2
    unfold numBad
    rw [numR_rp t h, (base_rp t h).2.1]
    congr 1
    by_cases hk : (numR t).1 < t.size
    · rw [bt_app t rpB _ hk, decide_eq_true hk, decide_eq_true (by rw [sz_rp]; omega)]
    · have e : (numR t).1 = t.size := by omega
      rw [e, bt_end, decide_eq_false (Nat.lt_irrefl _), show partB 41 = false by decide, Bool.and_false, Bool.false_and]
  unfold numM
  rw [hb, numR_rp t h]
theorem nszA_rp (t : ByteArray) (h : 0 < t.size) : nszA (t ++ rpB) = nszA t := by
  unfold nszA
  rw [partRun_rp t t.size (t ++ rpB).size 0 (by omega) (by rw [sz_rp]; omega) (Nat.zero_le _), ext_app _ _ _ _ (partRun_le t _ 0 (Nat.zero_le _)).2]
theorem opSz_rp (t : ByteArray) : ∀ n, n ≤ t.size → opSz (t ++ rpB) n = opSz t n
  | 0, _ => rfl
  | n + 1, h => by
    unfold opSz
    rw [ext_app _ _ _ _ h, opSz_rp t n (by omega)]
theorem one_no1 (a : UInt8) : oneL [a, 41] = false := by simp [oneL, oneT, asgL, asgT, rankL, rankT, List.lookup]
theorem one_no2 (a b : UInt8) : oneL [a, b, 41] = false := by simp [oneL, oneT, asgL, asgT, rankL, rankT, List.lookup]
theorem opSize_rp (t : ByteArray) (h : 0 < t.size) : opSize (t ++ rpB) = opSize t := by
  unfold opSize
  rw [sz_rp]
  by_cases h3 : 3 ≤ t.size
  · rw [Nat.min_eq_left h3, Nat.min_eq_left (by omega)]
    exact opSz_rp t 3 h3
  · rw [Nat.min_eq_right (by omega), Nat.min_eq_right (by omega), ← opSz_rp t t.size (Nat.le_refl _)]
    conv => lhs; unfold opSz
    have e : (t ++ rpB).extract 0 (t.size + 1) = t ++ rpB := by rw [← sz_rp]; exact ByteArray.extract_zero_size
    rw [e]
    have hno : oneL (t ++ rpB).toList = false := by
      rw [ByteArray.toList_eq, ByteArray.data_append]
      show oneL (t.data ++ #[41]).toList = false
      rw [Array.toList_append]
      obtain ⟨l, hl⟩ : ∃ l, t.data.toList = l := ⟨_, rfl⟩
      have hn : l.length = t.size := by rw [← hl]; rfl
      rw [hl]
      match l, hn with
      | [], hn => simp at hn; omega
      | [a], _ => exact one_no1 a
      | [a, b], _ => exact one_no2 a b
      | a :: b :: c :: l, hn => simp at hn; omega
    rw [hno, if_neg (by decide)]
theorem tokM_rp (t : ByteArray) (h : 0 < t.size) : tokM (t ++ rpB) = tokM t := by
  unfold tokM
  rw [if_neg (show ¬ (t ++ rpB).size = 0 by rw [sz_rp]; omega), if_neg (show ¬ t.size = 0 by omega), bt_app t rpB 0 h, numM_rp t h, nszA_rp t h, opSize_rp t h, ext_app _ _ _ _ (numM_le t), ext_app _ _ _ _ (nszA_le t), ext_app _ _ _ _ (opSize_le t)]
theorem tokM_end : tokM rpB = rpT := by kernel_rfl
/-- A text within parentheses. -/
def parT (s : ByteArray) : ByteArray := (lpB ++ s) ++ rpB
theorem sz_par (s : ByteArray) : (parT s).size = s.size + 2 := by unfold parT; rw [sz_rp, ByteArray.size_append]; show 1 + s.size + 1 = _; omega
theorem sz_lp (s : ByteArray) : (lpB ++ s).size = s.size + 1 := by rw [ByteArray.size_append]; show 1 + s.size = _; omega
theorem lp_ext (s : ByteArray) (k : Nat) : (lpB ++ s).extract (k + 1) (lpB ++ s).size = s.extract k s.size := by
  apply ByteArray.ext
  simp only [ByteArray.data_extract, ByteArray.data_append, Array.extract_append]
  rw [sz_lp]
  show lpB.data.extract (k + 1) (s.size + 1) ++ s.data.extract (k + 1 - 1) (s.size + 1 - 1) = _
  rw [show k + 1 - 1 = k from rfl, show s.size + 1 - 1 = s.size from rfl]
  rw [show lpB.data.extract (k + 1) (s.size + 1) = #[] by
    apply Array.eq_empty_of_size_eq_zero
    rw [Array.size_extract]
    show min (s.size + 1) 1 - (k + 1) = 0
    omega, Array.empty_append]
theorem par_ext (s : ByteArray) (k : Nat) (hk : k ≤ s.size) : (parT s).extract (k + 1) (parT s).size = s.extract k s.size ++ rpB := by
  unfold parT
  rw [ext_rp _ _ (by rw [sz_lp]; omega), lp_ext]
theorem par_bt (s : ByteArray) (k : Nat) (hk : k < s.size) : bt (parT s) (k + 1) = bt s k := by
  unfold parT
  rw [bt_app _ _ _ (by rw [sz_lp]; omega)]
  have h1 : (lpB ++ s).data[k + 1]? = s.data[k]? := by
    rw [ByteArray.data_append, Array.getElem?_append_right (by show 1 ≤ k + 1; omega)]
    rfl
  obtain ⟨b, hb⟩ : ∃ b, s.data[k]? = some b := ⟨_, Array.getElem?_eq_getElem hk⟩
  rw [bt_at s k b hb, bt_at _ _ b (h1.trans hb)]
theorem par_bt_end (s : ByteArray) : bt (parT s) (s.size + 1) = 41 := by
  unfold parT
  rw [← sz_lp]
  exact bt_end _
theorem blanks_par (s : ByteArray) : ∀ f g k, s.size - k ≤ f → s.size - k < g → k ≤ s.size → blanks (parT s) g (k + 1) = blanks s f k + 1
  | f, 0, k, _, h, _ => by omega
  | 0, g + 1, k, h1, h2, h3 => by
    have e : k = s.size := by omega
    subst e
    unfold blanks
    rw [if_neg]
    rintro ⟨_, h⟩
    rw [par_bt_end] at h
    exact absurd h (by decide)
  | f + 1, g + 1, k, h1, h2, h3 => by
    unfold blanks
    by_cases hk : k < s.size
    · rw [par_bt s k hk]
      by_cases hc : blankB (bt s k) = true
      · rw [if_pos ⟨by rw [sz_par]; omega, hc⟩, if_pos ⟨hk, hc⟩]
        exact blanks_par s f g _ (by omega) (by omega) (by omega)
      · rw [if_neg (fun e => hc e.2), if_neg (fun e => hc e.2)]
    · have e : k = s.size := by omega
      subst e
      rw [if_neg, if_neg (fun e => hk e.1)]
      rintro ⟨_, h⟩
      rw [par_bt_end] at h
      exact absurd h (by decide)
theorem tok_kind0 {t : ByteArray} (h : t.size ≠ 0) : (tokM t).kind ≠ 0 := by
  unfold tokM
  rw [if_neg h]
  split
  · split
    · show (1 : Nat) ≠ 0; decide
    · show (4 : Nat) ≠ 0; decide
  · split
    · show (2 : Nat) ≠ 0; decide
    · split
      · show (3 : Nat) ≠ 0; decide
      · show (4 : Nat) ≠ 0; decide
theorem tokAt_par (s : ByteArray) (k : Nat) (hk : k ≤ s.size) : tokAt (parT s) (k + 1) = (if (tokAt s k).kind = 0 then rpT else tokAt s k) ∧ blanks (parT s) (parT s).size (k + 1) = blanks s s.size k + 1 := by
  have hb := blanks_par s s.size (parT s).size k (by omega) (by rw [sz_par]; omega) hk
  have hl := blanks_le s s.size k hk
  refine ⟨?_, hb⟩
  unfold tokAt
  rw [hb, par_ext s _ hl.2]
  obtain ⟨t, ht⟩ : ∃ t, s.extract (blanks s s.size k) s.size = t := ⟨_, rfl⟩
  rw [ht]
  by_cases h0 : t.size = 0
  · have e : t = noT := ByteArray.ext (Array.eq_empty_of_size_eq_zero h0)
    have e2 : (tokM t).kind = 0 := by unfold tokM; rw [if_pos h0]; rfl
    rw [if_pos e2, e]
    exact tokM_end
  · rw [tokM_rp t (by omega), if_neg (tok_kind0 h0)]
theorem last_is {t : ByteArray} (h : lastTk (tokM t) = true) : tokM t = tk0 ∨ tokM t = tk4 := by
  unfold tokM at h ⊢
  split
  · exact .inl rfl
  · rename_i h0
    rw [if_neg h0] at h
    split
    · rename_i h1
      rw [if_pos h1] at h
      split
      · rename_i h2; rw [if_pos h2] at h
        have h : decide ((1 : Nat) = 0 ∨ (1 : Nat) = 4) = true := h
        exact absurd h (by decide)
      · exact .inr rfl
    · rename_i h1
      rw [if_neg h1] at h
      split
      · rename_i h2; rw [if_pos h2] at h
        have h : decide ((2 : Nat) = 0 ∨ (2 : Nat) = 4) = true := h
        exact absurd h (by decide)
      · rename_i h2
        rw [if_neg h2] at h
        split
        · rename_i h3; rw [if_pos h3] at h
          have h : decide ((3 : Nat) = 0 ∨ (3 : Nat) = 4) = true := h
          exact absurd h (by decide)
        · exact .inr rfl
theorem next_le (s : ByteArray) (k : Nat) (hk : k ≤ s.size) : blanks s s.size k + (tokAt s k).text.size ≤ s.size := by
  have h1 := blanks_le s s.size k hk
  have h2 := tok_text (s.extract (blanks s s.size k) s.size)
  rw [ByteArray.size_extract] at h2
  unfold tokAt
  omega
/-- The tokens ahead of the last one, and of the text within parentheses. -/
theorem toks_par (s : ByteArray) : ∀ f g k, s.size - k < f → s.size - k + 1 < g → k ≤ s.size → ∃ p x, toksF s f k = p ++ [x] ∧ (x = tk0 ∨ x = tk4) ∧ (∀ t ∈ p, t.kind ≠ 0 ∧ t.kind ≠ 4) ∧ (x = tk0 → toksF (parT s) g (k + 1) = p ++ rpT :: [tk0])
  | 0, g, k, h, _, _ => by omega
  | f + 1, 0, k, _, h, _ => by omega
  | f + 1, g + 1, k, h1, h2, h3 => by
    obtain ⟨e1, e2⟩ := tokAt_par s k h3
    have hn := next_le s k h3
    have hbl := blanks_le s s.size k h3
    by_cases hl : lastTk (tokAt s k) = true
    · have hx : tokAt s k = tk0 ∨ tokAt s k = tk4 := last_is hl
      refine ⟨[], tokAt s k, by unfold toksF; rw [if_pos hl]; rfl, hx, fun t ht => by simp at ht, fun hx0 => ?_⟩
      rw [hx0, if_pos (show tk0.kind = 0 from rfl)] at e1
      -- the parenthesis, then the end
      have hsz : blanks s s.size k = s.size := by
        have hlt := hbl.2
        by_cases hq : blanks s s.size k < s.size
        · exfalso
          unfold tokAt at hx0
          have : (s.extract (blanks s s.size k) s.size).size ≠ 0 := by rw [ByteArray.size_extract]; omega
          exact tok_kind0 this (by rw [hx0]; rfl)
        · omega
      unfold toksF
      rw [e1, if_neg (by decide), e2, hsz]
      show rpT :: toksF (parT s) g (s.size + 1 + rpT.text.size) = [rpT, tk0]
      rw [show s.size + 1 + rpT.text.size = (parT s).size by rw [sz_par]; rfl]
      obtain ⟨g', rfl⟩ : ∃ g', g = g' + 1 := ⟨g - 1, by omega⟩
      have hend : tokAt (parT s) (parT s).size = tk0 := by
        unfold tokAt
        have h := blanks_le (parT s) (parT s).size (parT s).size (Nat.le_refl _)
        have e : blanks (parT s) (parT s).size (parT s).size = (parT s).size := by omega
        rw [e]
        unfold tokM
        rw [if_pos (by rw [ByteArray.size_extract]; omega)]
      unfold toksF
      rw [hend]
      rfl
    · have hl' : lastTk (tokAt s k) = false := by simpa using hl
      have hp : 0 < (tokAt s k).text.size := tok_pos hl'
      obtain ⟨p, x, q1, q2, q3, q4⟩ := toks_par s f g (blanks s s.size k + (tokAt s k).text.size) (by omega) (by omega) hn
      have hk0 : (tokAt s k).kind ≠ 0 ∧ (tokAt s k).kind ≠ 4 := by
        have := of_decide_eq_false hl'
        exact ⟨fun e => this (.inl e), fun e => this (.inr e)⟩
      rw [if_neg hk0.1] at e1
      refine ⟨tokAt s k :: p, x, by unfold toksF; rw [if_neg hl, q1]; rfl, q2, fun t ht => ?_, fun hx0 => ?_⟩
      · rcases List.mem_cons.1 ht with rfl | ht
        · exact hk0
        · exact q3 t ht
      · unfold toksF
        rw [e1, if_neg hl, e2, show blanks s s.size k + 1 + (tokAt s k).text.size = blanks s s.size k + (tokAt s k).text.size + 1 by omega, q4 hx0]
        rfl
theorem ext_take (b : ByteArray) (n : Nat) : (b.extract 0 n).toList = b.data.toList.take n := by
  rw [ByteArray.toList_eq, ByteArray.data_extract, Array.toList_extract]
  simp
theorem par_list (s : ByteArray) : (parT s).data.toList = 40 :: (s.data.toList ++ [41]) := by
  unfold parT lpB rpB
  simp [ByteArray.data_append]
theorem one_no3 (a b : UInt8) : oneL [40, a, b] = false := by simp [oneL, oneT, asgL, asgT, rankL, rankT, List.lookup]
theorem one_no4 (a : UInt8) : oneL [40, a] = false := by simp [oneL, oneT, asgL, asgT, rankL, rankT, List.lookup]
theorem opSize_lp (s : ByteArray) : opSize (parT s) = 1 := by
  have h1 : opSz (parT s) 1 = 1 := by
    unfold opSz
    rw [ext_take, par_list]
    exact if_pos (show oneL [40] = true by decide)
  have h2 : opSz (parT s) 2 = 1 := by
    unfold opSz
    rw [ext_take, par_list, if_neg, h1]
    cases s.data.toList with
    | nil => exact (by decide : ¬ oneL [40, 41] = true)
    | cons a l => show ¬ oneL [40, a] = true; rw [one_no4]; decide
  unfold opSize
  rw [sz_par]
  by_cases h0 : s.size = 0
  · rw [h0]; exact h2
  · rw [Nat.min_eq_left (by omega)]
    unfold opSz
    rw [ext_take, par_list, if_neg, h2]
    obtain ⟨l, hl⟩ : ∃ l, s.data.toList = l := ⟨_, rfl⟩
    have hn : l.length = s.size := by rw [← hl]; rfl
    rw [hl]
    match l, hn with
    | [], hn => simp at hn; omega
    | [a], _ => show ¬ oneL [40, a, 41] = true; rw [one_no3]; decide
    | a :: b :: l, _ => show ¬ oneL [40, a, b] = true; rw [one_no3]; decide
theorem toksF_step {s : ByteArray} {f k : Nat} {t : Tk} (ht : tokAt s k = t) (h : lastTk t = false) : toksF s (f + 1) k = t :: toksF s f (blanks s s.size k + t.text.size) := by
  conv => lhs; unfold toksF
  rw [ht, h]
  rfl
theorem toksM_par (s : ByteArray) : ∃ p x, toksM s = p ++ [x] ∧ (x = tk0 ∨ x = tk4) ∧ (∀ t ∈ p, t.kind ≠ 0 ∧ t.kind ≠ 4) ∧ (x = tk0 → toksM (parT s) = lpT :: (p ++ rpT :: [tk0])) := by
  obtain ⟨p, x, q1, q2, q3, q4⟩ := toks_par s (s.size + 1) (s.size + 2) 0 (by omega) (by omega) (Nat.zero_le _)
  refine ⟨p, x, q1, q2, q3, fun hx => ?_⟩
  have hb0 : bt (parT s) 0 = 40 := by
    unfold parT
    rw [bt_app _ _ _ (by rw [sz_lp]; omega)]
    exact bt_at _ _ 40 (by rw [ByteArray.data_append, Array.getElem?_append_left (by decide)]; rfl)
  have hbl : blanks (parT s) (parT s).size 0 = 0 := by
    rw [sz_par]
    unfold blanks
    rw [hb0, if_neg (fun e => absurd e.2 (by decide))]
  have ht : tokAt (parT s) 0 = lpT := by
    unfold tokAt
    rw [hbl, ByteArray.extract_zero_size]
    have hpr : partRun (parT s) (parT s).size 0 = 0 := by
      rw [sz_par]
      unfold partRun
      rw [hb0, if_neg (fun e => absurd e.2 (by decide))]
    have hnz : nszA (parT s) = 0 := by unfold nszA; rw [hpr, ite_self]
    unfold tokM
    rw [if_neg (show ¬ (parT s).size = 0 by rw [sz_par]; omega), hb0, if_neg (show ¬ ((48 : Int) ≤ 40 ∧ (40 : Int) ≤ 57) by omega), hnz, if_neg (show ¬ 0 < 0 by omega), opSize_lp, if_pos (show 0 < 1 by omega)]
    have e : (parT s).extract 0 1 = ⟨#[40]⟩ := by
      apply ByteArray.ext
      apply Array.ext'
      have := ext_take (parT s) 1
      rw [ByteArray.toList_eq, par_list] at this
      exact this
    rw [e]
    rfl
  unfold toksM
  rw [toksF_step ht (by decide), hbl, sz_par, show lpT.text.size = 1 from rfl, q4 hx]
end Go.Proofs.YtjbmpockoicgmaaGreat
