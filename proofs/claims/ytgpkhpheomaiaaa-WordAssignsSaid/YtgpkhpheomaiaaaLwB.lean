/- The law WordAssigns' walk. No condition. -/
import Derived.Test.YtgpkhpheomaiaaaLwA
import Derived.Test.YtgpkhpheomaiaaaWrdB
namespace Go.Proofs.Ytgpkhpheomaiaaa
open Go.RowKit Go.PlainAid
attribute [local go_sem] Oper.semAt_some

theorem app_data (a b : ByteArray) : (a ++ b).data.toList = a.data.toList ++ b.data.toList := by
  rw [ByteArray.data_append]; simp
theorem app_size (a b : ByteArray) : (a ++ b).size = a.size + b.size := by simp
theorem list_back {l : List UInt8} {k : Nat} {c : UInt8} (h : l[k]? = some c) : l.take k ++ [c] ++ l.drop (k + 1) = l := by
  obtain ⟨hk, h⟩ := List.getElem?_eq_some_iff.1 h
  rw [List.append_assoc, ← h, List.singleton_append, ← List.drop_eq_getElem_cons hk, List.take_append_drop]
theorem asg_back {s : ByteArray} (h : (asg s).2.2 = true) : (asg s).1 ++ ⟨#[61]⟩ ++ (asg s).2.1 = s := by
  rcases index_cases s with e | ⟨k, hk, e⟩
  · rw [asg_none e] at h; cases h
  · cases hN : isName (s.extract 0 k)
    · rw [asg_some e, cut_no hN] at h; cases h
    · rw [asg_some e, cut_yes hN]
      have hg := (Lib.indexByte_some e).1
      apply toList_inj
      rw [Lib.toList_data, Lib.toList_data, app_data, app_data, Lib.extract_data, Lib.extract_data, List.drop_zero, Nat.sub_zero]
      rw [List.take_of_length_le (i := s.size - (k + 1)) (by rw [List.length_drop, ← Lib.size_eq]; exact Nat.le_refl _)]
      exact list_back hg

set_option maxHeartbeats 2000000 in
theorem assigns_law (s : ByteArray) (w : World) (hs : s.size ≤ maxLen) :
    Calls Try.prog 3 #[.string s] w fun e w' => e = .returned (.bool true) ∧ Below w.heap.size w w' := by
  have hs9 := hs
  cases hok : (asg s).2.2
  · go_enter Try.func3, Try.ntmps3
    go_wp2_with (first
      | (go_at_call 6; refine (awake_any _).mono ?_; rintro e w1 ⟨rfl, hb1⟩; have hbH := Lib.hid hb1; clear hb1)
      | (go_at_call 7; refine (assign_any s hs9 _).mono ?_; rintro e w' ⟨rfl, m, rfl⟩; rw [hok])
      | (go_at_call 8; refine (assignR_any s hs9 _).mono ?_; rintro e w' ⟨rfl, m, rfl⟩; rw [hok]))
    all_goals go_ret
    all_goals exact ⟨rfl, hbH.out.trans ⟨rfl, rfl, rfl, Nat.le_refl _, fun _ _ => rfl⟩⟩
  · go_enter Try.func3, Try.ntmps3
    have hb := asg_back hok
    have hz := congrArg ByteArray.size hb
    rw [app_size, app_size] at hz
    have h61 : (⟨#[61]⟩ : ByteArray).size = 1 := rfl
    rw [h61] at hz
    unfold maxLen at hs
    have g1 : ¬ 9223372036854775807 < (asg s).1.size + 1 := by omega
    have g2 : ¬ 9223372036854775807 < (asg s).1.size + 1 + (asg s).2.1.size := by omega
    clear hz h61
    go_wp2_with (first
      | (go_at_call 6; refine (awake_any _).mono ?_; rintro e w1 ⟨rfl, hb1⟩; have hbH := Lib.hid hb1; clear hb1)
      | (go_at_call 7; refine (assign_any s hs9 _).mono ?_; rintro e w' ⟨rfl, m, rfl⟩; rw [hok])
      | (go_at_call 8; refine (assignR_any s hs9 _).mono ?_; rintro e w' ⟨rfl, m, rfl⟩; rw [hok]))
    all_goals go_ret
    all_goals exact ⟨rfl, hbH.out.trans ⟨rfl, rfl, rfl, Nat.le_refl _, fun _ _ => rfl⟩⟩
end Go.Proofs.Ytgpkhpheomaiaaa
