/- The contract of Quote, and of the first look ('awake') of the statements of layer 1. Condition: the library's tables and sentinels lie as they were laid (Gl). -/
import Derived.Test.YtgadnlnclpoeaaaDoorOctB
namespace Go.Proofs.YtgadnlnclpoeaaaDoor
open Go.RowKit Go.PlainAid

/-- What Quote puts between its quotes. -/
def qm : List UInt8 → List UInt8
  | [] => []
  | c :: r => (if c = 39 then [39, 92, 39, 39] else [c]) ++ qm r

theorem qm_len (l : List UInt8) : (qm l).length ≤ 4 * l.length := by
  induction l with
  | nil => simp [qm]
  | cons c r ih =>
    unfold qm
    split <;> simp <;> omega

theorem index_39 (r : List UInt8) : Lib.index (39 :: r) [39] = 0 := by
  rw [Lib.index_one]; rfl
theorem index_ne {c : UInt8} (h : c ≠ 39) (r : List UInt8) : Lib.index (c :: r) [39] = if Lib.index r [39] == -1 then -1 else Lib.index r [39] + 1 := by
  rw [Lib.index_one, Lib.index_one, Lib.indexByte, if_neg (by simpa using h)]

theorem replaceK_ne {c : UInt8} (h : c ≠ 39) (new : List UInt8) (k : Nat) (r : List UInt8) : Lib.replaceK [39] new k (c :: r) = c :: Lib.replaceK [39] new k r := by
  cases k with
  | zero => rfl
  | succ k =>
    have g := Lib.index_ge r [39]
    unfold Lib.replaceK
    rw [index_ne h]
    by_cases e : Lib.index r [39] = -1
    · simp [e]
    · obtain ⟨i, hi⟩ : ∃ i : Nat, Lib.index r [39] = i := ⟨(Lib.index r [39]).toNat, by omega⟩
      have e1 : (Lib.index r [39] == -1) = false := by simpa using e
      have e2 : (((i : Int) + 1) == -1) = false := by
        rw [beq_eq_false_iff_ne]; omega
      have e3 : ((i : Int) + 1).toNat = i + 1 := by omega
      have e4 : ((i : Int) == -1) = false := by
        rw [beq_eq_false_iff_ne]; omega
      simp [hi, e2, e3, e4]

theorem count_39 (r : List UInt8) : Lib.count (39 :: r) [39] = 1 + Lib.count r [39] := by
  rw [Lib.count_hit (i := 0) (by decide) (index_39 r)]; rfl
theorem count_ne {c : UInt8} (h : c ≠ 39) (r : List UInt8) : Lib.count (c :: r) [39] = Lib.count r [39] := by
  have g := Lib.index_ge r [39]
  by_cases e : Lib.index r [39] = -1
  · rw [Lib.count_miss e, Lib.count_miss (by rw [index_ne h, e]; rfl)]
  · obtain ⟨i, hi⟩ : ∃ i : Nat, Lib.index r [39] = i := ⟨(Lib.index r [39]).toNat, by omega⟩
    have e4 : ((i : Int) == -1) = false := by
      rw [beq_eq_false_iff_ne]; omega
    rw [Lib.count_hit (i := i) (by decide) hi, Lib.count_hit (i := i + 1) (by decide) (by rw [index_ne h, hi, e4]; rfl)]
    rfl

theorem replace_qm (l : List UInt8) : Lib.replaceAll l [39] [39, 92, 39, 39] = qm l := by
  have : Lib.replaceAll l [39] [39, 92, 39, 39] = Lib.replaceK [39] [39, 92, 39, 39] (Lib.count l [39]) l := by
    unfold Lib.replaceAll Lib.replace Lib.replaceNum
    rw [if_neg (by decide), if_pos (.inl (by decide))]
  rw [this]
  induction l with
  | nil => rfl
  | cons c r ih =>
    have ih := ih (by
      unfold Lib.replaceAll Lib.replace Lib.replaceNum
      rw [if_neg (by decide), if_pos (.inl (by decide))])
    unfold qm
    by_cases h : c = 39
    · subst h
      rw [count_39, Nat.add_comm, Lib.replaceK_hit (i := 0) _ _ _ _ (index_39 r), if_pos rfl, ← ih]
      rfl
    · rw [count_ne h, replaceK_ne h, if_neg h, ih]
      rfl

def qmS (s : ByteArray) : ByteArray := ⟨(qm s.data.toList).toArray⟩
def quoted (s : ByteArray) : ByteArray := ⟨#[39]⟩ ++ qmS s ++ ⟨#[39]⟩
theorem qmS_size (s : ByteArray) : (qmS s).size ≤ 4 * s.size := by
  have : (qmS s).size = (qm s.data.toList).length := by
    show (qm s.data.toList).toArray.size = _
    simp
  rw [this, Lib.size_eq]
  exact qm_len _

set_option maxHeartbeats 400000 in
theorem quote_safe (s : ByteArray) (hs : s.size ≤ maxLen) (w : World) (h : isSafe s = true) : Calls Tryd.prog 21 #[.string s] w fun e w' => e = .returned (.string s) ∧ w = w' := by
  have hf := Lib.hid (isSafe_any s w hs)
  rw [h] at hf
  clear h
  go_enter Tryd.func21, Tryd.ntmps21
  go_wp2_with fail
  refine hf.out.mono ?_
  rintro e w1 ⟨rfl, rfl⟩
  go_wp2
  go_ret
  exact ⟨rfl, rfl⟩

set_option maxHeartbeats 400000 in
theorem quote_not (s : ByteArray) (hs : s.size ≤ 100000) (w : World) (hg : Gl w) (h : isSafe s = false) :
    Calls Tryd.prog 21 #[.string s] w fun e w' => e = .returned (.string (quoted s)) ∧ Below w.heap.size w w' := by
  have hf := Lib.hid (isSafe_any s w (by unfold maxLen; omega))
  rw [h] at hf
  obtain ⟨m, hm⟩ := hg.c3
  have hr : Hid (Calls Tryd.prog 33 #[.string s, .string ⟨#[39]⟩, .string ⟨#[39, 92, 39, 39]⟩] w fun e w' => e = .returned (.string (qmS s)) ∧ Below w.heap.size w w') :=
    Lib.hid ((Tryd.strings_ReplaceAll s ⟨#[39]⟩ ⟨#[39, 92, 39, 39]⟩ m w (by omega) hm (by decide) (by
      have : (⟨#[39, 92, 39, 39]⟩ : ByteArray).size = 4 := rfl
      have hc : Lib.countB s ⟨#[39]⟩ ≤ s.size + 1 := by
        have := Lib.count_le s.data.toList [39]
        rw [← Lib.size_eq] at this
        exact this
      rw [this]; omega)).mono fun _ _ ⟨he, hb⟩ => ⟨he.trans (congrArg (fun l : List UInt8 => Ending.returned (.string ⟨l.toArray⟩)) (replace_qm s.data.toList)), hb⟩)
  have hz := qmS_size s
  unfold quoted
  generalize hX : qmS s = X at hr hz ⊢
  have z1 : ¬ 9223372036854775807 < 1 + X.size := by omega
  have z2 : ¬ 9223372036854775807 < 1 + X.size + 1 := by omega
  clear h hm hX
  go_enter Tryd.func21, Tryd.ntmps21
  go_wp2_with fail
  refine hf.out.mono ?_
  rintro e w1 ⟨rfl, rfl⟩
  go_wp2_with fail
  refine hr.out.mono ?_
  rintro e w1 ⟨rfl, hb⟩
  have hbH := Lib.hid hb
  clear hb
  go_wp2
  go_ret
  exact ⟨rfl, hbH.out⟩

theorem number_7 (w : World) (h : Gl w) : Calls Tryd.prog 12 #[.string ⟨#[43, 48, 48, 55]⟩] w fun e w' => e = .returned (.tuple #[.int .i64 7, .bool true]) ∧ Below w.heap.size w w' :=
  (number_any ⟨#[43, 48, 48, 55]⟩ (by decide) w h).mono fun _ _ ⟨he, hw⟩ => ⟨he.trans (by kernel_rfl), hw⟩
theorem decimal_12 (w : World) (h : Gl w) : Calls Tryd.prog 11 #[.int .i64 (-12)] w fun e w' => e = .returned (.string ⟨#[45, 49, 50]⟩) ∧ Below w.heap.size w w' :=
  (decimal_any (-12) (by decide) (by decide) w h).mono fun _ _ ⟨he, hw⟩ => ⟨he.trans (by kernel_rfl), hw⟩
theorem quote_ab (w : World) (h : Gl w) : Calls Tryd.prog 21 #[.string ⟨#[97, 32, 98]⟩] w fun e w' => e = .returned (.string ⟨#[39, 97, 32, 98, 39]⟩) ∧ Below w.heap.size w w' :=
  (quote_not ⟨#[97, 32, 98]⟩ (by decide) w h (by kernel_rfl)).mono fun _ _ ⟨he, hw⟩ => ⟨he.trans (by kernel_rfl), hw⟩

set_option maxHeartbeats 600000 in
theorem awake_any (w : World) (h : Gl w) : Calls Tryd.prog 10 #[] w fun e w' => e = .returned (.bool true) ∧ Below w.heap.size w w' := by
  have hH := Lib.hid h
  have h4 := h.size
  clear h
  go_enter Tryd.func10, Tryd.ntmps10
  go_wp2_with fail
  refine (number_7 _ hH.out).mono ?_
  rintro e w1 ⟨rfl, hb⟩
  have b1 := Lib.hid hb
  clear hb
  go_wp2_with fail
  refine (decimal_12 _ (hH.out.below b1.out h4)).mono ?_
  rintro e w2 ⟨rfl, hb⟩
  have b2 := Lib.hid (b1.out.trans (hb.mono b1.out.size))
  clear hb
  go_wp2_with fail
  refine (quote_ab _ (hH.out.below b2.out h4)).mono ?_
  rintro e w3 ⟨rfl, hb⟩
  have b3 := Lib.hid (b2.out.trans (hb.mono b2.out.size))
  clear hb
  go_wp2
  go_ret
  exact ⟨rfl, b3.out⟩
end Go.Proofs.YtgadnlnclpoeaaaDoor
