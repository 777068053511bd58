/- Assign, the program's and the reference's: what is an assignment. No condition. -/
import Derived.Test.YtgpkhpheomaiaaaWrdA
import Derived.Lib.IndexLaws
import Derived.Lib.IndexBytes
import Derived.OwnWalk
namespace Go.Proofs.Ytgpkhpheomaiaaa
open Go.RowKit Go.PlainAid
attribute [local go_sem] Oper.semAt_some

/-- What is written as an assignment, cut at place k. -/
def cutAt (s : ByteArray) (k : Nat) : ByteArray × ByteArray × Bool :=
  if isName (s.extract 0 k) then (s.extract 0 k, s.extract (k + 1) s.size, true) else (⟨#[]⟩, ⟨#[]⟩, false)
def asg (s : ByteArray) : ByteArray × ByteArray × Bool :=
  if Lib.indexByte s.data.toList 61 = -1 then (⟨#[]⟩, ⟨#[]⟩, false) else cutAt s (Lib.indexByte s.data.toList 61).toNat

theorem asg_none {s : ByteArray} (h : Lib.indexByte s.data.toList 61 = -1) : asg s = (⟨#[]⟩, ⟨#[]⟩, false) := by
  unfold asg; rw [if_pos h]
theorem asg_some {s : ByteArray} {k : Nat} (h : Lib.indexByte s.data.toList 61 = k) : asg s = cutAt s k := by
  unfold asg; rw [h, if_neg (by omega)]; rfl
theorem cut_yes {s : ByteArray} {k : Nat} (h : isName (s.extract 0 k) = true) : cutAt s k = (s.extract 0 k, s.extract (k + 1) s.size, true) := by
  unfold cutAt; rw [if_pos h]
theorem cut_no {s : ByteArray} {k : Nat} (h : isName (s.extract 0 k) = false) : cutAt s k = (⟨#[]⟩, ⟨#[]⟩, false) := by
  unfold cutAt; rw [h]; rfl
theorem ret3 {a b : ByteArray} {c : Bool} {x : ByteArray × ByteArray × Bool} (h : x = (a, b, c)) :
    Ending.returned (.tuple #[.string a, .string b, .bool c]) = .returned (.tuple #[.string x.1, .string x.2.1, .bool x.2.2]) := by
  rw [h]
theorem index_cases (s : ByteArray) : Lib.indexByte s.data.toList 61 = -1 ∨ ∃ k : Nat, k < s.size ∧ Lib.indexByte s.data.toList 61 = k := by
  have h1 := Lib.indexByte_ge s.data.toList 61
  by_cases h : Lib.indexByte s.data.toList 61 = -1
  · exact .inl h
  · refine .inr ⟨(Lib.indexByte s.data.toList 61).toNat, ?_, by omega⟩
    have h2 := (Lib.indexByte_some (l := s.data.toList) (c := 61) (o := (Lib.indexByte s.data.toList 61).toNat) (by omega)).1
    rw [Lib.size_eq]
    exact (List.getElem?_eq_some_iff.1 h2).1

set_option maxHeartbeats 1000000 in
theorem cut_some (s : ByteArray) (k : Nat) (hs : s.size ≤ maxLen) (hk : k < s.size) (h : Lib.indexByte s.data.toList 61 = k) (w : World) : Calls Try.prog 21 #[.string s, .string ⟨#[61]⟩] w fun e w' => e = .returned (.tuple #[.string (s.extract 0 k), .string (s.extract (k + 1) s.size), .bool true]) ∧ ∃ m, w' = w.drewN m := by
  unfold maxLen at hs
  go_enter Try.func21, Try.ntmps21
  go_wp2_with (go_at_call 30; refine (Try.stringslite_Index_one s 61 _).mono ?_; rintro e w' ⟨rfl, rfl⟩; rw [h])
  go_quiet (fail)
  go_wp2
  go_ret3
  exact ⟨rfl, _, rfl⟩

set_option maxHeartbeats 1000000 in
theorem cut_none (s : ByteArray) (h : Lib.indexByte s.data.toList 61 = -1) (w : World) : Calls Try.prog 21 #[.string s, .string ⟨#[61]⟩] w fun e w' => e = .returned (.tuple #[.string s, .string ⟨#[]⟩, .bool false]) ∧ ∃ m, w' = w.drewN m := by
  go_enter Try.func21, Try.ntmps21
  go_wp2_with (go_at_call 30; refine (Try.stringslite_Index_one s 61 _).mono ?_; rintro e w' ⟨rfl, rfl⟩; rw [h])
  go_ret3
  exact ⟨rfl, 0, rfl⟩

set_option maxHeartbeats 1000000 in
theorem scut_some (s : ByteArray) (k : Nat) (hs : s.size ≤ maxLen) (hk : k < s.size) (h : Lib.indexByte s.data.toList 61 = k) (w : World) : Calls Try.prog 13 #[.string s, .string ⟨#[61]⟩] w fun e w' => e = .returned (.tuple #[.string (s.extract 0 k), .string (s.extract (k + 1) s.size), .bool true]) ∧ ∃ m, w' = w.drewN m := by
  go_enter Try.func13, Try.ntmps13
  go_wp2_with (go_at_call 21; refine (cut_some s k hs hk h _).mono ?_; rintro e w' ⟨rfl, m, rfl⟩)
  go_ret3
  exact ⟨rfl, _, rfl⟩

set_option maxHeartbeats 1000000 in
theorem scut_none (s : ByteArray) (h : Lib.indexByte s.data.toList 61 = -1) (w : World) : Calls Try.prog 13 #[.string s, .string ⟨#[61]⟩] w fun e w' => e = .returned (.tuple #[.string s, .string ⟨#[]⟩, .bool false]) ∧ ∃ m, w' = w.drewN m := by
  go_enter Try.func13, Try.ntmps13
  go_wp2_with (go_at_call 21; refine (cut_none s h _).mono ?_; rintro e w' ⟨rfl, m, rfl⟩)
  go_ret3
  exact ⟨rfl, _, rfl⟩

set_option maxHeartbeats 1000000 in
theorem assign_any (s : ByteArray) (hs : s.size ≤ maxLen) (w : World) : Calls Try.prog 7 #[.string s] w fun e w' => e = .returned (.tuple #[.string (asg s).1, .string (asg s).2.1, .bool (asg s).2.2]) ∧ ∃ m, w' = w.drewN m := by
  have hx : ∀ k, k < s.size → (s.extract 0 k).size ≤ maxLen := fun k hk => by rw [ByteArray.size_extract]; omega
  rcases index_cases s with h | ⟨k, hk, h⟩
  · go_enter Try.func7, Try.ntmps7
    go_wp2_with (go_at_call 13; refine (scut_none s h _).mono ?_; rintro e w' ⟨rfl, m, rfl⟩)
    go_ret3
    exact ⟨ret3 (asg_none h), _, rfl⟩
  · cases hN : isName (s.extract 0 k)
    · go_enter Try.func7, Try.ntmps7
      go_wp2_with (first
        | (go_at_call 13; refine (scut_some s k hs hk h _).mono ?_; rintro e w' ⟨rfl, m, rfl⟩)
        | (go_at_call 14; refine (name_any _ _ (hx k hk)).mono ?_; rintro e w' ⟨rfl, rfl⟩; rw [hN]))
      go_ret3
      exact ⟨ret3 ((asg_some h).trans (cut_no hN)), _, rfl⟩
    · go_enter Try.func7, Try.ntmps7
      go_wp2_with (first
        | (go_at_call 13; refine (scut_some s k hs hk h _).mono ?_; rintro e w' ⟨rfl, m, rfl⟩)
        | (go_at_call 14; refine (name_any _ _ (hx k hk)).mono ?_; rintro e w' ⟨rfl, rfl⟩; rw [hN]))
      go_ret3
      exact ⟨ret3 ((asg_some h).trans (cut_yes hN)), _, rfl⟩

theorem index_lt {s : ByteArray} {k : Nat} (hk : k < s.size) (hm : ∀ m, m < k → bt s m ≠ 61) (he : bt s k = 61) : Lib.indexByte s.data.toList 61 = k := by
  have hg : s.data.toList[k]? = some 61 := by
    rw [Lib.data_getElem? s k hk]
    rw [← get_bt s k hk] at he
    exact congrArg some (Lib.byte_eq_of_toNat he)
  rcases index_cases s with h | ⟨j, hj, h⟩
  · exact absurd hg (Lib.indexByte_none h k)
  · obtain ⟨h1, h2⟩ := Lib.indexByte_some h
    rcases Nat.lt_trichotomy j k with hl | rfl | hl
    · exfalso
      apply hm j hl
      rw [Lib.data_getElem? s j hj] at h1
      rw [← get_bt s j hj, Option.some.inj h1]; rfl
    · exact h
    · exact absurd hg (h2 k hl)
theorem index_no {s : ByteArray} (hm : ∀ m, m < s.size → bt s m ≠ 61) : Lib.indexByte s.data.toList 61 = -1 := by
  rcases index_cases s with h | ⟨j, hj, h⟩
  · exact h
  · exfalso
    obtain ⟨h1, h2⟩ := Lib.indexByte_some h
    apply hm j hj
    rw [Lib.data_getElem? s j hj] at h1
    rw [← get_bt s j hj, Option.some.inj h1]; rfl

set_option maxHeartbeats 1000000 in
theorem assignR_any (s : ByteArray) (hs : s.size ≤ maxLen) (w : World) : Calls Try.prog 8 #[.string s] w fun e w' => e = .returned (.tuple #[.string (asg s).1, .string (asg s).2.1, .bool (asg s).2.2]) ∧ ∃ m, w' = w.drewN m := by
  have hx : ∀ k, k < s.size → (s.extract 0 k).size ≤ maxLen := fun k hk => by rw [ByteArray.size_extract]; omega
  unfold maxLen at hs
  have hb := get_bt s
  go_enter Try.func8, Try.ntmps8
  go_wp2
  go_loop [5] (fun i => ∃ k : Nat, k ≤ s.size ∧ i = .int .i64 k ∧ Hid (∀ m, m < k → bt s m ≠ 61)) (fun i => s.size - (intOf i).toNat)
  case atStart => exact ⟨0, Nat.zero_le _, rfl, Lib.hid (fun m h => absurd h (by omega))⟩
  case round =>
    obtain ⟨k, hk, rfl, hm⟩ := hrel
    by_cases hlt : k < s.size
    · cases hE : (bt s k == 61)
      · go_wp2
        go_round
        case rel => exact ⟨k + 1, by omega, by go_num, Lib.hid (fun m h => by
          by_cases e : m = k
          · subst e; exact fun g => by rw [g] at hE; cases hE
          · exact hm.out m (by omega))⟩
        case measure => simp [intOf]; omega
      · have h := Lib.hid (index_lt hlt hm.out (beq_iff_eq.1 hE))
        cases hN : isName (s.extract 0 k)
        · go_wp2_with (go_at_call 15; refine (nameR_any _ _ (hx k hlt)).mono ?_; rintro e w' ⟨rfl, rfl⟩; rw [hN])
          go_ret3
          exact ⟨ret3 ((asg_some h.out).trans (cut_no hN)), 0, rfl⟩
        · go_wp2_with (go_at_call 15; refine (nameR_any _ _ (hx k hlt)).mono ?_; rintro e w' ⟨rfl, rfl⟩; rw [hN])
          go_quiet (fail)
          go_wp2
          go_ret3
          exact ⟨ret3 ((asg_some h.out).trans (cut_yes hN)), _, rfl⟩
    · obtain rfl : k = s.size := by omega
      have h := Lib.hid (index_no hm.out)
      go_wp2
      go_ret3
      exact ⟨ret3 (asg_none h.out), 0, rfl⟩
end Go.Proofs.Ytgpkhpheomaiaaa
