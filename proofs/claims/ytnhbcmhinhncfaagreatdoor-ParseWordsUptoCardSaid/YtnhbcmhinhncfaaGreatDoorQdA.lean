/- isSafe, Quote of octet. Condition: the library's variable holds a number (Gl). -/
import Derived.Test.YtnhbcmhinhncfaaGreatDoorQcA
import Derived.Lib.AtoiErrMem
import Derived.Lib.Strings
namespace Go.Proofs.YtnhbcmhinhncfaaGreatDoor
open Go.RowKit Go.PlainAid
attribute [local go_sem] Oper.semAt_some

def letB (c : Int) : Bool := decide ((65 ≤ c ∧ c ≤ 90) ∨ (97 ≤ c ∧ c ≤ 122))
def digB (c : Int) : Bool := decide (48 ≤ c ∧ c ≤ 57)
theorem letB_of {c : Int} {p : Bool} (h : ((65 ≤ c ∧ c ≤ 90) ∨ (97 ≤ c ∧ c ≤ 122)) ↔ p = true) : letB c = p := by
  unfold letB; cases p <;> simp_all
theorem digB_of {c : Int} {p : Bool} (h : (48 ≤ c ∧ c ≤ 57) ↔ p = true) : digB c = p := by
  unfold digB; cases p <;> simp_all


set_option maxHeartbeats 400000 in
theorem isLetter_any (c : Int) (w : World) : Calls Tryz.prog 23 #[.int .u8 c] w fun e w' => e = .returned (.bool (letB c)) ∧ w = w' := by
  by_cases h1 : 65 ≤ c <;> by_cases h2 : c ≤ 90 <;> by_cases h3 : 97 ≤ c <;> by_cases h4 : c ≤ 122
  all_goals
    go_enter Tryz.func23, Tryz.ntmps23
    go_wp2
    go_ret
    exact ⟨ret_bool (letB_of (by simp; omega)).symm, rfl⟩

set_option maxHeartbeats 400000 in
theorem isDigit_any (c : Int) (w : World) : Calls Tryz.prog 24 #[.int .u8 c] w fun e w' => e = .returned (.bool (digB c)) ∧ w = w' := by
  by_cases h1 : 48 ≤ c <;> by_cases h2 : c ≤ 57
  all_goals
    go_enter Tryz.func24, Tryz.ntmps24
    go_wp2
    go_ret
    exact ⟨ret_bool (digB_of (by simp; omega)).symm, rfl⟩

/-- Where a byte stands among those that need no quotes, beside letters and digits; -1: nowhere. -/
def idx (c : Int) : Int := Lib.indexByte [95, 45, 46, 47, 58, 61, 43, 44, 64, 37] c.toNat.toUInt8
theorem punct_any (c : Int) (w : World) : Calls Tryz.prog 25 #[.string ⟨#[95, 45, 46, 47, 58, 61, 43, 44, 64, 37]⟩, .int .u8 c] w fun e w' => e = .returned (.int .i64 (idx c)) ∧ w = w' :=
  (Tryz.strings_IndexByte _ _ _).mono fun _ _ ⟨he, hw⟩ => ⟨he, hw.symm⟩
def safeOk (s : ByteArray) (k : Nat) : Bool := letB (bt s k) || digB (bt s k) || !decide (idx (bt s k) < 0)
def isSafe (s : ByteArray) : Bool := decide (s.size ≠ 0) && decide (∀ k, k < s.size → safeOk s k = true)
theorem isSafe_yes {s : ByteArray} (h0 : s.size ≠ 0) (h : ∀ k, k < s.size → safeOk s k = true) : isSafe s = true := by
  unfold isSafe; rw [decide_eq_true h0, decide_eq_true h]; rfl
theorem isSafe_bad {s : ByteArray} {k : Nat} (hk : k < s.size) (h : safeOk s k = false) : isSafe s = false := by
  unfold isSafe
  have : ¬ ∀ k, k < s.size → safeOk s k = true := fun g => by rw [g k hk] at h; cases h
  rw [decide_eq_false this]; simp
theorem isSafe_empty {s : ByteArray} (h : s.size = 0) : isSafe s = false := by
  unfold isSafe; simp [h]

set_option maxHeartbeats 1000000 in
theorem isSafe_any (s : ByteArray) (w : World) (hs : s.size ≤ maxLen) : Calls Tryz.prog 16 #[.string s] w fun e w' => e = .returned (.bool (isSafe s)) ∧ w = w' := by
  unfold maxLen at hs
  have hb := get_bt s
  go_enter Tryz.func16, Tryz.ntmps16
  go_wp2
  go_loop [6] (fun i => ∃ k : Nat, k ≤ s.size ∧ i = .int .i64 k ∧ Hid (∀ m, m < k → safeOk s m = true)) (fun i => s.size - (intOf i).toNat)
  case atStart => exact ⟨0, Nat.zero_le _, rfl, Lib.hid (fun m h => absurd h (by omega))⟩
  case round =>
    obtain ⟨k, hk, rfl, hm⟩ := hrel
    by_cases hlt : k < s.size
    · cases hL : letB (bt s k) <;> cases hD : digB (bt s k) <;> cases hI : decide (idx (bt s k) < 0)
      all_goals
        have hn : Hid (safeOk s k = (letB (bt s k) || digB (bt s k) || !decide (idx (bt s k) < 0))) := rfl
        rw [hL, hD, hI] at hn
        go_wp2_with (first
          | (go_at_call 23; refine (isLetter_any _ _).mono ?_; rintro e w' ⟨rfl, rfl⟩)
          | (go_at_call 24; refine (isDigit_any _ _).mono ?_; rintro e w' ⟨rfl, rfl⟩)
          | (go_at_call 25; refine (punct_any _ _).mono ?_; rintro e w' ⟨rfl, rfl⟩))
        first
        | (go_ret
           exact ⟨ret_bool (isSafe_bad hlt hn.out).symm, rfl⟩)
        | (go_round
           case rel => exact ⟨k + 1, by omega, by go_num, Lib.hid (fun m h => by
             by_cases e : m = k
             · subst e; exact hn.out
             · exact hm.out m (by omega))⟩
           case measure => simp [intOf]; omega)
    · obtain rfl : k = s.size := by omega
      by_cases h0 : s.size = 0
      · have e0 := size0 h0
        have hr := Lib.hid (isSafe_empty h0)
        subst e0
        go_wp2
        go_ret
        exact ⟨ret_bool hr.out.symm, rfl⟩
      · have hr := Lib.hid (isSafe_yes h0 hm.out)
        have hne : (!s.toList.isEmpty) = true := str_ne h0
        clear h0
        go_wp2
        go_ret
        exact ⟨ret_bool hr.out.symm, rfl⟩
/-- What Quote puts between its quotes. -/
def qm : List UInt8 → List UInt8
  | [] => []
  | c :: r => (if c = 39 then [39, 92, 39, 39] else [c]) ++ qm r

theorem qm_len (l : List UInt8) : (qm l).length ≤ 4 * l.length := by
  induction l with
  | nil => simp [qm]
  | cons c r ih =>
    unfold qm
    split <;> simp <;> omega

theorem index_39 (r : List UInt8) : Lib.index (39 :: r) [39] = 0 := by
  rw [Lib.index_one]; rfl
theorem index_ne {c : UInt8} (h : c ≠ 39) (r : List UInt8) : Lib.index (c :: r) [39] = if Lib.index r [39] == -1 then -1 else Lib.index r [39] + 1 := by
  rw [Lib.index_one, Lib.index_one, Lib.indexByte, if_neg (by simpa using h)]

theorem replaceK_ne {c : UInt8} (h : c ≠ 39) (new : List UInt8) (k : Nat) (r : List UInt8) : Lib.replaceK [39] new k (c :: r) = c :: Lib.replaceK [39] new k r := by
  cases k with
  | zero => rfl
  | succ k =>
    have g := Lib.index_ge r [39]
    unfold Lib.replaceK
    rw [index_ne h]
    by_cases e : Lib.index r [39] = -1
    · simp [e]
    · obtain ⟨i, hi⟩ : ∃ i : Nat, Lib.index r [39] = i := ⟨(Lib.index r [39]).toNat, by omega⟩
      have e1 : (Lib.index r [39] == -1) = false := by simpa using e
      have e2 : (((i : Int) + 1) == -1) = false := by
        rw [beq_eq_false_iff_ne]; omega
      have e3 : ((i : Int) + 1).toNat = i + 1 := by omega
      have e4 : ((i : Int) == -1) = false := by
        rw [beq_eq_false_iff_ne]; omega
      simp [hi, e2, e3, e4]

theorem count_39 (r : List UInt8) : Lib.count (39 :: r) [39] = 1 + Lib.count r [39] := by
  rw [Lib.count_hit (i := 0) (by decide) (index_39 r)]; rfl
theorem count_ne {c : UInt8} (h : c ≠ 39) (r : List UInt8) : Lib.count (c :: r) [39] = Lib.count r [39] := by
  have g := Lib.index_ge r [39]
  by_cases e : Lib.index r [39] = -1
  · rw [Lib.count_miss e, Lib.count_miss (by rw [index_ne h, e]; rfl)]
  · obtain ⟨i, hi⟩ : ∃ i : Nat, Lib.index r [39] = i := ⟨(Lib.index r [39]).toNat, by omega⟩
    have e4 : ((i : Int) == -1) = false := by
      rw [beq_eq_false_iff_ne]; omega
    rw [Lib.count_hit (i := i) (by decide) hi, Lib.count_hit (i := i + 1) (by decide) (by rw [index_ne h, hi, e4]; rfl)]
    rfl

theorem replace_qm (l : List UInt8) : Lib.replaceAll l [39] [39, 92, 39, 39] = qm l := by
  have : Lib.replaceAll l [39] [39, 92, 39, 39] = Lib.replaceK [39] [39, 92, 39, 39] (Lib.count l [39]) l := by
    unfold Lib.replaceAll Lib.replace Lib.replaceNum
    rw [if_neg (by decide), if_pos (.inl (by decide))]
  rw [this]
  induction l with
  | nil => rfl
  | cons c r ih =>
    have ih := ih (by
      unfold Lib.replaceAll Lib.replace Lib.replaceNum
      rw [if_neg (by decide), if_pos (.inl (by decide))])
    unfold qm
    by_cases h : c = 39
    · subst h
      rw [count_39, Nat.add_comm, Lib.replaceK_hit (i := 0) _ _ _ _ (index_39 r), if_pos rfl, ← ih]
      rfl
    · rw [count_ne h, replaceK_ne h, if_neg h, ih]
      rfl

def qmS (s : ByteArray) : ByteArray := ⟨(qm s.data.toList).toArray⟩
def quoted (s : ByteArray) : ByteArray := ⟨#[39]⟩ ++ qmS s ++ ⟨#[39]⟩
theorem qmS_size (s : ByteArray) : (qmS s).size ≤ 4 * s.size := by
  have : (qmS s).size = (qm s.data.toList).length := by
    show (qm s.data.toList).toArray.size = _
    simp
  rw [this, Lib.size_eq]
  exact qm_len _

set_option maxHeartbeats 400000 in
theorem quote_safe (s : ByteArray) (hs : s.size ≤ maxLen) (w : World) (h : isSafe s = true) : Calls Tryz.prog 10 #[.string s] w fun e w' => e = .returned (.string s) ∧ w = w' := by
  have hf := Lib.hid (isSafe_any s w hs)
  rw [h] at hf
  clear h
  go_enter Tryz.func10, Tryz.ntmps10
  go_wp2_with fail
  refine hf.out.mono ?_
  rintro e w1 ⟨rfl, rfl⟩
  go_wp2
  go_ret
  exact ⟨rfl, rfl⟩

set_option maxHeartbeats 400000 in
theorem quote_not (s : ByteArray) (hs : s.size ≤ 100000000) (w : World) (hg : Gl w) (h : isSafe s = false) :
    Calls Tryz.prog 10 #[.string s] w fun e w' => e = .returned (.string (quoted s)) ∧ Below w.heap.size w w' := by
  have hf := Lib.hid (isSafe_any s w (by unfold maxLen; omega))
  rw [h] at hf
  obtain ⟨m, hm⟩ := hg.c3
  have hr : Hid (Calls Tryz.prog 17 #[.string s, .string ⟨#[39]⟩, .string ⟨#[39, 92, 39, 39]⟩] w fun e w' => e = .returned (.string (qmS s)) ∧ Below w.heap.size w w') :=
    Lib.hid ((Tryz.strings_ReplaceAll s ⟨#[39]⟩ ⟨#[39, 92, 39, 39]⟩ m w (by omega) hm (by decide) (by
      have : (⟨#[39, 92, 39, 39]⟩ : ByteArray).size = 4 := rfl
      have hc : Lib.countB s ⟨#[39]⟩ ≤ s.size + 1 := by
        have := Lib.count_le s.data.toList [39]
        rw [← Lib.size_eq] at this
        exact this
      rw [this]; omega)).mono fun _ _ ⟨he, hb⟩ => ⟨he.trans (congrArg (fun l : List UInt8 => Ending.returned (.string ⟨l.toArray⟩)) (replace_qm s.data.toList)), hb⟩)
  have hz := qmS_size s
  unfold quoted
  generalize hX : qmS s = X at hr hz ⊢
  have z1 : ¬ 9223372036854775807 < 1 + X.size := by omega
  have z2 : ¬ 9223372036854775807 < 1 + X.size + 1 := by omega
  clear h hm hX
  go_enter Tryz.func10, Tryz.ntmps10
  go_wp2_with fail
  refine hf.out.mono ?_
  rintro e w1 ⟨rfl, rfl⟩
  go_wp2_with fail
  refine hr.out.mono ?_
  rintro e w1 ⟨rfl, hb⟩
  have hbH := Lib.hid hb
  clear hb
  go_wp2
  go_ret
  exact ⟨rfl, hbH.out⟩

end Go.Proofs.YtnhbcmhinhncfaaGreatDoor
/- Quoted words, read as a line: 'x' and what Quote makes of a text. No condition. -/
namespace Go.Proofs.YtnhbcmhinhncfaaGreatDoor
open Go.RowKit Go.PlainAid
set_option linter.unusedVariables false
set_option linter.unusedSimpArgs false
def safeC (c : Int) : Bool := letB c || digB c || !decide (idx c < 0)
theorem safe_plain : ∀ n : Nat, n < 256 → safeC (n : Int) = true → plainC (n : Int) = true := by decide +kernel
section
variable {s : ByteArray}
theorem qm_plain {p : List UInt8} (h : ∀ c ∈ p, c ≠ 39) (r : List UInt8) : qm (p ++ r) = p ++ qm r := by
  induction p with
  | nil => rfl
  | cons a p ih =>
    rw [List.cons_append, qm, if_neg (h a (List.mem_cons_self ..)), ih (fun c hc => h c (List.mem_cons_of_mem _ hc))]
    rfl
theorem indexByte_at {p r : List UInt8} {c : UInt8} (h : ∀ x ∈ p, x ≠ c) : Lib.indexByte (p ++ c :: r) c = p.length := by
  induction p with
  | nil => simp [Lib.indexByte]
  | cons a p ih =>
    have ha : a ≠ c := h a (List.mem_cons_self ..)
    have hi := ih (fun x hx => h x (List.mem_cons_of_mem _ hx))
    rw [List.cons_append, Lib.indexByte, if_neg (by simpa using ha), hi]
    have : ((p.length : Int) == -1) = false := by rw [beq_eq_false_iff_ne]; omega
    rw [this]
    simp
theorem split_39 : ∀ r : List UInt8, (∀ c ∈ r, c ≠ 39) ∨ ∃ p r', r = p ++ 39 :: r' ∧ ∀ c ∈ p, c ≠ 39
  | [] => .inl (fun c h => by cases h)
  | a :: r => by
    by_cases ha : a = 39
    · subst ha; exact .inr ⟨[], r, rfl, fun c h => by cases h⟩
    · rcases split_39 r with h | ⟨p, r', rfl, h⟩
      · exact .inl (fun c hc => by
          rcases List.mem_cons.1 hc with rfl | hc
          · exact ha
          · exact h c hc)
      · exact .inr ⟨a :: p, r', rfl, fun c hc => by
          rcases List.mem_cons.1 hc with rfl | hc
          · exact ha
          · exact h c hc⟩
theorem pass_quote {e : Nat} {p t : List UInt8} (hp : ∀ c ∈ p, c ≠ 39) (hd : s.data.toList.drop e = 39 :: (p ++ 39 :: t)) : passM (wholeM s 24) s e false = ⟨e + p.length + 2, 0, 0⟩ := by
  obtain ⟨h1, h2, h3⟩ := drop_bt hd
  have h2' : bt s e = 39 := h2
  have hq : qIdx s e = p.length := by
    unfold qIdx
    rw [ext_all, h3]
    exact indexByte_at hp
  have e92 : (bt s e == 92) = false := by rw [h2']; decide
  have e96 : (bt s e == 96) = false := by rw [h2']; decide
  have e39 : (bt s e == 39) = true := by rw [h2']; decide
  unfold passM begM
  simp only [e92, e96, e39, Bool.false_eq_true, if_false, if_true, Bool.not_false]
  unfold wholeM
  simp only [e39, if_true]
  unfold sqM
  rw [hq, if_pos (by omega)]
  simp only [R3.mk.injEq, and_true, Int.toNat_natCast]
  omega
theorem wE_quote : ∀ (n : Nat) (r : List UInt8) (e : Nat) (post : List UInt8), (∃ c t, post = c :: t ∧ endsM (c.toNat : Int) = true) → r.length ≤ n → s.data.toList.drop e = 39 :: (qm r ++ 39 :: post) → ∀ f, s.size ≤ e + f → wEnd s f e = ⟨e + (qm r).length + 2, 0, 0⟩
  | n, r, e, post, hpo, hn, hd, f, hf => by
    obtain ⟨cp, tp, rfl, hcp⟩ := hpo
    obtain ⟨h1, h2, _⟩ := drop_bt hd
    have hend : endsM (bt s e) = false := by rw [h2]; decide
    rcases split_39 r with h | ⟨p, r', rfl, hp⟩
    · have hq : qm r = r := by have := qm_plain h []; rw [List.append_nil] at this; rw [this]; simp [qm]
      rw [hq] at hd ⊢
      have hd9 : s.data.toList.drop (e + (39 :: (r ++ [39])).length) = cp :: tp := drop_app (by rw [hd]; simp)
      have he : e + (39 :: (r ++ [39])).length = e + r.length + 2 := by simp; omega
      rw [he] at hd9
      obtain ⟨g1, g2, _⟩ := drop_bt hd9
      exact wE_step h1 hend (pass_quote h hd) (by omega) (fun f _ => wEnd_done g1 (by rw [g2]; exact hcp)) f hf
    · have hq : qm (p ++ 39 :: r') = p ++ [39, 92, 39, 39] ++ qm r' := by rw [qm_plain hp, qm, if_pos rfl, List.append_assoc]
      rw [hq] at hd ⊢
      have hd0 : s.data.toList.drop e = 39 :: (p ++ 39 :: (92 :: 39 :: 39 :: (qm r' ++ 39 :: cp :: tp))) := by rw [hd]; simp
      have hd1 : s.data.toList.drop (e + (39 :: (p ++ [39])).length) = 92 :: 39 :: 39 :: (qm r' ++ 39 :: cp :: tp) := drop_app (by rw [hd0]; simp)
      have he1 : e + (39 :: (p ++ [39])).length = e + p.length + 2 := by simp; omega
      rw [he1] at hd1
      obtain ⟨g1, g2, g3⟩ := drop_bt hd1
      obtain ⟨g4, _, g5⟩ := drop_bt g3
      have hp92 : passM (wholeM s 24) s (e + p.length + 2) false = ⟨e + p.length + 4, 0, 0⟩ := by
        have e92 : (bt s (e + p.length + 2) == 92) = true := by rw [g2]; decide
        unfold passM
        simp only [e92, if_true, R3.mk.injEq, and_true]
        omega
      have ih : ∀ f, s.size ≤ e + p.length + 4 + f → wEnd s f (e + p.length + 4) = ⟨e + p.length + 4 + (qm r').length + 2, 0, 0⟩ := by
        match n, hn with
        | 0, hn => simp at hn
        | n + 1, hn => exact wE_quote n r' (e + p.length + 4) (cp :: tp) ⟨cp, tp, rfl, hcp⟩ (by simp at hn; omega) g5
      have hl : (p ++ [39, 92, 39, 39] ++ qm r').length = p.length + 4 + (qm r').length := by simp; omega
      rw [hl]
      have := wE_step h1 hend (pass_quote hp hd0) (by omega) (wE_step g1 (by rw [g2]; decide) hp92 (by omega) ih) f hf
      rw [this]
      congr 1
      omega
end
/-- A text as Quote gives it. -/
def quoteM (t : ByteArray) : ByteArray := if isSafe t then t else quoted t
theorem quote_any (t : ByteArray) (w : World) (ht : t.size ≤ 10000000) (hg : Gl w) : Calls Tryz.prog 10 #[.string t] w fun e w' => e = .returned (.string (quoteM t)) ∧ Below w.heap.size w w' := by
  unfold quoteM
  cases hs : isSafe t
  · rw [if_neg (by decide)]
    exact quote_not t (by omega) w hg hs
  · rw [if_pos rfl]
    exact (quote_safe t (by unfold maxLen; omega) w hs).mono fun e w' ⟨he, hw⟩ => ⟨he, by rw [← hw]; exact Below.refl _ _⟩
/-- The law's word. -/
def wq (t : ByteArray) : List UInt8 := [39, 120, 39] ++ (quoteM t).data.toList
theorem wq_ends {s : ByteArray} (t : ByteArray) (e : Nat) (c : UInt8) (r : List UInt8) (hd : s.data.toList.drop e = wq t ++ c :: r) (hc : endsM (c.toNat : Int) = true) (f : Nat) (hf : s.size ≤ e + f) : wEnd s f e = ⟨e + (wq t).length, 0, 0⟩ := by
  have hd0 : s.data.toList.drop e = 39 :: ([120] ++ 39 :: ((quoteM t).data.toList ++ c :: r)) := by rw [hd]; simp [wq]
  obtain ⟨h1, h2, _⟩ := drop_bt hd0
  have hps := pass_quote (s := s) (p := [120]) (fun x hx => by simp at hx; rw [hx]; decide) hd0
  have hd3 : s.data.toList.drop (e + 3) = (quoteM t).data.toList ++ c :: r := drop_app (l := [39, 120, 39]) (by rw [hd0]; rfl)
  have hle : e + 3 ≤ s.size := by
    have hl := congrArg List.length hd0
    rw [List.length_drop, ← Lib.size_eq] at hl
    simp at hl
    omega
  have hlen : (wq t).length = 3 + (quoteM t).data.toList.length := by simp [wq]; omega
  refine wE_step h1 (by rw [h2]; decide) hps (by show e < e + 1 + 2; omega) (fun f hf => ?_) f hf
  have hf3 : s.size ≤ e + 3 + f := by simpa using hf
  show wEnd s f (e + 3) = _
  rw [hlen]
  unfold quoteM at hd3 ⊢
  cases hs : isSafe t
  · rw [hs, if_neg (by decide)] at hd3
    rw [if_neg (by decide)]
    have hq : (quoted t).data.toList = 39 :: (qm t.data.toList ++ [39]) := by
      unfold quoted qmS
      rw [ByteArray.data_append, ByteArray.data_append, Array.toList_append, Array.toList_append]
      simp
    rw [hq] at hd3 ⊢
    have := wE_quote t.data.toList.length t.data.toList (e + 3) (c :: r) ⟨c, r, rfl, hc⟩ (Nat.le_refl _) (by rw [hd3]; simp) f hf3
    rw [this]
    simp only [R3.mk.injEq, and_true, List.length_cons, List.length_append, List.length_nil]
    omega
  · rw [hs, if_pos rfl] at hd3
    rw [if_pos rfl]
    have hall : t.size ≠ 0 ∧ ∀ k, k < t.size → safeOk t k = true := by
      unfold isSafe at hs
      rw [Bool.and_eq_true, decide_eq_true_iff, decide_eq_true_iff] at hs
      exact hs
    have hp : ∀ c ∈ t.data.toList, plainC (c.toNat : Int) = true := fun c hm => by
      obtain ⟨k, hk⟩ := List.mem_iff_getElem?.1 hm
      have hlt : k < t.size := by rw [Lib.size_eq]; exact (List.getElem?_eq_some_iff.1 hk).1
      obtain ⟨d, d1, d2⟩ := bt_at hlt
      rw [hk] at d1
      obtain rfl : c = d := by simpa using d1
      have h9 := hall.2 k hlt
      unfold safeOk at h9
      rw [d2] at h9
      exact safe_plain c.toNat c.toNat_lt h9
    have := wE_plain t.data.toList (e + 3) (c :: r) hp hd3 hle (fun c' t' e' => by
      obtain ⟨rfl, rfl⟩ : c = c' ∧ r = t' := by simpa using e'
      exact hc) f hf3
    rw [this]
    simp only [R3.mk.injEq, and_true]
    omega
end Go.Proofs.YtnhbcmhinhncfaaGreatDoor
