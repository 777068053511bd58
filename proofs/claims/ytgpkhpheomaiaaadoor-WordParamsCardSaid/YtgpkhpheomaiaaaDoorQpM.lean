/- A parameter with its operator, read as a word: plain functions. No condition. -/
import Derived.Test.YtgpkhpheomaiaaaDoorQuM
namespace Go.Proofs.YtgpkhpheomaiaaaDoor
open Go.RowKit Go.PlainAid

/-! where the braces end -/
section
variable {p : Nat → R3} {t : ByteArray} {b : Nat} {c : Int} {R : R3}
/-- From i on the loop comes to R, whatever fuel is enough. -/
def Rea (p : Nat → R3) (t : ByteArray) (b : Nat) (c : Int) (R : R3) (i : Nat) : Prop := ∀ f, t.size ≤ f + i → loopM p t b c f i = R
theorem rea_done {i : Nat} (hi : i < t.size) (h : bt t i = c) (hR : R = ⟨i + 1, 0, 0⟩) : Rea p t b c R i := by
  intro f hf
  obtain ⟨f, rfl⟩ : ∃ g, f = g + 1 := ⟨f - 1, by omega⟩
  rw [hR, loop_done hi (by rw [h]; exact beq_self_eq_true _)]
theorem rea_step {i n : Nat} (hi : i < t.size) (h : bt t i ≠ c) (hp : p i = ⟨n, 0, 0⟩) (hn : i < n) (hR : Rea p t b c R n) : Rea p t b c R i := by
  intro f hf
  obtain ⟨f, rfl⟩ : ∃ g, f = g + 1 := ⟨f - 1, by omega⟩
  rw [loop_on hi (beq_eq_false_iff_ne.2 h) hp rfl]
  exact hR f (by show t.size ≤ f + n; omega)
end
/-- A byte that nothing begins at, within braces. -/
def InC (c : Int) : Prop := c ≠ 36 ∧ c ≠ 92 ∧ c ≠ 34 ∧ c ≠ 96 ∧ c ≠ 39 ∧ c ≠ 125
theorem pIn_in {t : ByteArray} {k j : Nat} (h : InC (bt t j)) : pIn t k false j = ⟨j + 1, 0, 0⟩ := by
  obtain ⟨h1, h2, h3, h4, h5, h6⟩ := h
  have f : ∀ {c : Int}, bt t j ≠ c → (bt t j == c) = false := fun h => beq_eq_false_iff_ne.2 h
  have hb : begM t j false = false := by unfold begM; rw [f h5, f h3, f h1]; rfl
  unfold pIn passM
  rw [f h2, f h4, hb]
  rfl
section
variable {t : ByteArray} {k b : Nat} {R : R3}
theorem rea_plain : ∀ (P pre rest : List UInt8), t.data.toList = pre ++ P ++ rest → (∀ c ∈ P, InC (c.toNat : Int)) → Rea (pIn t k false) t b 125 R (pre.length + P.length) → Rea (pIn t k false) t b 125 R pre.length
  | [], pre, rest, _, _, hR => hR
  | c :: P, pre, rest, ht, hP, hR => by
    have hc := hP c (List.mem_cons_self ..)
    obtain ⟨hbt, hlt⟩ := bt_get (t := t) (i := pre.length) (c := c) (by rw [ht]; simp)
    have ih := rea_plain P (pre ++ [c]) rest (by rw [ht]; simp) (fun x hx => hP x (List.mem_cons_of_mem _ hx)) (by rw [show (pre ++ [c]).length + P.length = pre.length + (c :: P).length by simp; omega]; exact hR)
    exact rea_step hlt (by rw [hbt]; exact hc.2.2.2.2.2) (pIn_in (by rw [hbt]; exact hc)) (Nat.lt_succ_self _) (by rw [show pre.length + 1 = (pre ++ [c]).length by simp]; exact ih)
theorem pIn_single {pre p rest : List UInt8} (ht : t.data.toList = pre ++ 39 :: (p ++ 39 :: rest)) (hp : ∀ c ∈ p, c ≠ 39) : pIn t k false pre.length = ⟨pre.length + p.length + 2, 0, 0⟩ := by
  obtain ⟨h39, hlt⟩ := quote_first ht
  have hb : begM t pre.length false = true := by unfold begM; rw [h39]; rfl
  unfold pIn passM
  rw [h39, show ((39 : Int) == 92) = false by decide, show ((39 : Int) == 96) = false by decide, if_neg (by decide), if_neg (by decide), if_pos hb, whole_single (by rw [h39]; rfl)]
  exact quote_end ht hp
theorem pIn_back {pre rest : List UInt8} (ht : t.data.toList = pre ++ 92 :: 39 :: rest) : pIn t k false pre.length = ⟨pre.length + 2, 0, 0⟩ := by
  have h1 := bt_get (t := t) (i := pre.length) (c := 92) (by rw [ht]; simp)
  have h92 : bt t pre.length = 92 := h1.1
  have hz : pre.length + 2 ≤ t.size := by rw [Lib.size_eq, ht]; simp
  unfold pIn passM
  rw [h92, show ((92 : Int) == 92) = true by decide, if_pos rfl, Nat.min_eq_left hz]
theorem rea_quoted : ∀ (m : Nat) (r pre rest : List UInt8), r.length ≤ m → t.data.toList = pre ++ 39 :: (qm r ++ 39 :: rest) → Rea (pIn t k false) t b 125 R (pre.length + (qm r).length + 2) → Rea (pIn t k false) t b 125 R pre.length := by
  intro m
  induction m with
  | zero =>
    intro r pre rest hm ht hR
    obtain rfl : r = [] := List.eq_nil_of_length_eq_zero (by omega)
    have ht' : t.data.toList = pre ++ 39 :: ([] ++ 39 :: rest) := ht
    obtain ⟨h39, hlt⟩ := quote_first ht'
    exact rea_step hlt (by rw [h39]; decide) (pIn_single ht' (fun c h => by cases h)) (by show _ < pre.length + 0 + 2; omega) hR
  | succ m ih =>
    intro r pre rest hm ht hR
    rcases split_39 r with hr | ⟨p, r', rfl, hp⟩
    · have hq : qm r = r := by have := qm_plain hr []; simpa [qm] using this
      rw [hq] at ht hR
      obtain ⟨h39, hlt⟩ := quote_first ht
      exact rea_step hlt (by rw [h39]; decide) (pIn_single ht hr) (by omega) hR
    · have hq : qm (p ++ 39 :: r') = p ++ 39 :: (92 :: 39 :: 39 :: qm r') := by rw [qm_plain hp, qm, if_pos rfl]; rfl
      rw [hq] at ht hR
      have ht1 : t.data.toList = pre ++ 39 :: (p ++ 39 :: (92 :: 39 :: 39 :: (qm r' ++ 39 :: rest))) := by rw [ht]; simp
      have ht2 : t.data.toList = (pre ++ 39 :: (p ++ [39])) ++ 92 :: 39 :: (39 :: (qm r' ++ 39 :: rest)) := by rw [ht1]; simp
      have ht3 : t.data.toList = (pre ++ 39 :: (p ++ [39, 92, 39])) ++ 39 :: (qm r' ++ 39 :: rest) := by rw [ht1]; simp
      have l2 : (pre ++ 39 :: (p ++ [39])).length = pre.length + p.length + 2 := by simp; omega
      have l3 : (pre ++ 39 :: (p ++ [39, 92, 39])).length = pre.length + p.length + 2 + 2 := by simp; omega
      obtain ⟨h39, hlt⟩ := quote_first ht1
      have h92 := bt_get (t := t) (i := (pre ++ 39 :: (p ++ [39])).length) (c := 92) (by rw [ht2]; simp)
      have h3 := ih r' _ rest (by simp at hm; omega) ht3 (by rw [l3, show pre.length + p.length + 2 + 2 + (qm r').length + 2 = pre.length + (p ++ 39 :: (92 :: 39 :: 39 :: qm r')).length + 2 by simp; omega]; exact hR)
      have h2 := rea_step (p := pIn t k false) (b := b) (c := 125) (R := R) h92.2 (by rw [show bt t _ = 92 from h92.1]; decide) (pIn_back ht2) (by omega) (by rw [l2, ← l3]; exact h3)
      exact rea_step hlt (by rw [h39]; decide) (pIn_single ht1 hp) (by omega) (by rw [← l2]; exact h2)
end

/-! names -/
def nmC (c : Int) : Bool := letB c || c == 95 || digB c
theorem name_us {x : ByteArray} {n : Nat} (h : n < x.size) : isName (⟨#[95]⟩ ++ x.extract n (n + 1)) = nmC (bt x n) := by
  have hz1 : (x.extract n (n + 1)).size = 1 := by rw [ext_size]; omega
  have hz : ((⟨#[95]⟩ : ByteArray) ++ x.extract n (n + 1)).size = 2 := by rw [ByteArray.size_append, hz1]; rfl
  have b0 : bt ((⟨#[95]⟩ : ByteArray) ++ x.extract n (n + 1)) 0 = 95 := by rw [bt_left (by decide)]; decide
  have b1 : bt ((⟨#[95]⟩ : ByteArray) ++ x.extract n (n + 1)) 1 = bt x n := by
    rw [bt_right (by decide), show 1 - (⟨#[95]⟩ : ByteArray).size = 0 from rfl]
    obtain ⟨c, hc⟩ : ∃ c, x.data.toList[n]? = some c := ⟨x.data.toList[n]'(by rw [← Lib.size_eq]; exact h), List.getElem?_eq_getElem _⟩
    rw [(bt_get hc).1]
    refine (bt_get ?_).1
    rw [ext_list, show n + 1 - n = 1 by omega, List.getElem?_take_of_lt (by omega), List.getElem?_drop, Nat.add_zero, hc]
  have ok0 : nmOk ((⟨#[95]⟩ : ByteArray) ++ x.extract n (n + 1)) 0 = true := by unfold nmOk; rw [b0]; rfl
  have ok1 : nmOk ((⟨#[95]⟩ : ByteArray) ++ x.extract n (n + 1)) 1 = nmC (bt x n) := by unfold nmOk; rw [b1]; rfl
  cases hv : nmC (bt x n)
  · exact isName_bad (k := 1) (by omega) (ok1.trans hv)
  · exact isName_yes (by omega) (fun k hk => by
      rw [hz] at hk
      have : k = 0 ∨ k = 1 := by omega
      rcases this with rfl | rfl
      · exact ok0
      · exact ok1.trans hv)
theorem name_chars {s : ByteArray} (h : isName s = true) : s.size ≠ 0 ∧ (∀ k, k < s.size → nmC (bt s k) = true) ∧ (letB (bt s 0) || bt s 0 == 95) = true := by
  unfold isName at h
  rw [Bool.and_eq_true] at h
  have h0 := of_decide_eq_true h.1
  have hk := of_decide_eq_true h.2
  refine ⟨h0, fun k hlt => ?_, ?_⟩
  · have := hk k hlt
    unfold nmOk at this
    unfold nmC
    revert this
    cases letB (bt s k) <;> cases (bt s k == 95) <;> cases digB (bt s k) <;> cases (k != 0) <;> simp
  · have := hk 0 (by omega)
    unfold nmOk at this
    simpa using this
/-- A name, and what can't go on with it behind. -/
theorem nRun_name {x nm : ByteArray} (hx : ∀ k, k < nm.size → bt x k = bt nm k) (hz : nm.size ≤ x.size) (hn : isName nm = true) (hend : nm.size = x.size ∨ nmC (bt x nm.size) = false) : ∀ (f n : Nat), x.size ≤ f + n → n ≤ nm.size → nRun x f n = nm.size
  | 0, n, h1, h2 => by rw [nRun]; omega
  | f + 1, n, h1, h2 => by
    by_cases hlt : n < nm.size
    · rw [nRun_on (by omega) (by rw [name_us (by omega), hx n hlt]; exact (name_chars hn).2.1 n hlt)]
      exact nRun_name hx hz hn hend f (n + 1) (by omega) hlt
    · obtain rfl : n = nm.size := by omega
      rcases hend with h | h
      · exact nRun_end (by omega)
      · by_cases hs : nm.size < x.size
        · exact nRun_no (by rw [name_us hs]; exact h)
        · exact nRun_end hs
theorem nsz_name {x nm : ByteArray} (hx : x.extract 0 nm.size = nm) (hb : ∀ k, k < nm.size → bt x k = bt nm k) (hz : nm.size ≤ x.size) (hn : isName nm = true) (hend : nm.size = x.size ∨ nmC (bt x nm.size) = false) : nszM x = nm.size := by
  unfold nszM
  rw [nRun_name hb hz hn hend _ 0 (by omega) (Nat.zero_le _), hx, if_pos hn]
theorem bare_name {x nm : ByteArray} (h : nszM x = nm.size) (h0 : nm.size ≠ 0) : bareM x = nm.size := by unfold bareM; rw [h, if_pos (by omega)]
theorem psz_name {x nm : ByteArray} (h : nszM x = nm.size) (h0 : nm.size ≠ 0) (hf : (letB (bt x 0) || bt x 0 == 95) = true) : pszM x = nm.size := by
  have hd : dRun x x.size 0 = 0 := dRun_no (fun h => by
    have h1 := h.2.1
    have h2 := h.2.2
    have h3 : letB (bt x 0) = false := by unfold letB; exact decide_eq_false (by omega)
    have h4 : (bt x 0 == 95) = false := beq_eq_false_iff_ne.2 (by omega)
    rw [h3, h4] at hf
    cases hf)
  unfold pszM
  rw [hd, if_neg (by omega)]
  exact bare_name h h0
theorem nm_in {c : Int} (h : nmC c = true) : InC c := by
  have key : ∀ c : Int, c = 36 ∨ c = 92 ∨ c = 34 ∨ c = 96 ∨ c = 39 ∨ c = 125 → nmC c = false := by
    intro c hc
    rcases hc with rfl | rfl | rfl | rfl | rfl | rfl <;> decide
  refine ⟨?_, ?_, ?_, ?_, ?_, ?_⟩ <;> intro e <;> rw [key _ (by rw [e]; decide)] at h <;> cases h
theorem bt_list {s : ByteArray} {k : Nat} (h : k < s.size) : ∃ c, s.data.toList[k]? = some c ∧ bt s k = (c.toNat : Int) := by
  have hc : s.data.toList[k]? = some (s.data.toList[k]'(by rw [← Lib.size_eq]; exact h)) := List.getElem?_eq_getElem _
  exact ⟨_, hc, (bt_get hc).1⟩
theorem mem_bt {s : ByteArray} {c : UInt8} (h : c ∈ s.data.toList) : ∃ k, k < s.size ∧ bt s k = (c.toNat : Int) := by
  obtain ⟨k, hk, rfl⟩ := List.mem_iff_getElem.1 h
  exact ⟨k, by rw [Lib.size_eq]; exact hk, (bt_get (List.getElem?_eq_getElem hk)).1⟩
/-- Bytes of a text that begins with another one. -/
theorem bt_pre {x a : ByteArray} {rest : List UInt8} (hx : x.data.toList = a.data.toList ++ rest) {k : Nat} (h : k < a.size) : bt x k = bt a k := by
  obtain ⟨c, hc, e⟩ := bt_list h
  rw [e]
  exact (bt_get (by rw [hx, List.getElem?_append_left (by rw [← Lib.size_eq]; exact h), hc])).1
theorem ext_pre {x a : ByteArray} {rest : List UInt8} (hx : x.data.toList = a.data.toList ++ rest) : x.extract 0 a.size = a := by
  apply toList_inj
  rw [Lib.toList_data, Lib.toList_data, ext_list, hx, List.drop_zero, Nat.sub_zero, Lib.size_eq a, List.take_left]
theorem ext_post {x a b : ByteArray} (hx : x.data.toList = a.data.toList ++ b.data.toList) : x.extract a.size x.size = b := by
  apply toList_inj
  rw [Lib.toList_data, Lib.toList_data, ext_list, Lib.size_eq x, hx, Lib.size_eq a, List.drop_left, List.take_of_length_le (by simp)]
end Go.Proofs.YtgpkhpheomaiaaaDoor
