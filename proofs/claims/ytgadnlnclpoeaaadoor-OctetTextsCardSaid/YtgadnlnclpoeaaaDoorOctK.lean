/- The walk of the law OctetTexts: true at every input. Condition: the library's tables and sentinels lie as they were laid (Gl). -/
import Derived.Test.YtgadnlnclpoeaaaDoorOctJ
import Derived.Test.YtgadnlnclpoeaaaDoorOctF
namespace Go.Proofs.YtgadnlnclpoeaaaDoor
open Go.RowKit Go.PlainAid

set_option maxRecDepth 100000 in
set_option maxHeartbeats 1000000 in
theorem octetTexts_w (s : ByteArray) (w : World) (z : s.data.toList.length ≤ reachBytes) (hg : Gl w) :
    Calls Tryd.prog 5 #[.string s] w fun e w' => e = .returned (.bool true) ∧ Below w.heap.size w w' := by
  have hz : s.size ≤ 140737488351232 := by rw [Lib.size_eq]; exact z
  clear z
  have hg' := Lib.hid hg
  have h4 := hg.size
  clear hg
  by_cases hl : (65536 : Int) < s.size
  · go_enter Tryd.func5, Tryd.ntmps5
    go_wp2_with fail
    refine (awake_any _ hg'.out).mono ?_
    rintro e w1 ⟨rfl, hb⟩
    have hbH := Lib.hid hb
    clear hb
    go_wp2
    go_ret
    exact ⟨rfl, hbH.out⟩
  · have hs : s.size ≤ 65536 := by omega
    have hsm : s.size ≤ maxLen := by unfold maxLen; omega
    obtain ⟨R, hR⟩ : ∃ R, R = if isSafe s = true then s else quoted s := ⟨_, rfl⟩
    have c1 : Hid (∀ w, Calls Tryd.prog 19 #[.string s] w fun e w' => e = .returned (.bool (isName s)) ∧ w = w') := Lib.hid (fun w => name_any s w hsm)
    have c2 : Hid (∀ w, Calls Tryd.prog 20 #[.string s] w fun e w' => e = .returned (.bool (isName s)) ∧ w = w') := Lib.hid (fun w => refName_any s w hsm)
    have c3 : Hid (∀ w, Gl w → Calls Tryd.prog 21 #[.string s] w fun e w' => e = .returned (.string R) ∧ Below w.heap.size w w') := Lib.hid (fun w g => by
      cases hS : isSafe s
      · rw [hR, if_neg (by rw [hS]; decide)]; exact quote_not s (by omega) w g hS
      · rw [hR, if_pos hS]; exact (quote_safe s hsm w hS).mono fun _ _ ⟨he, hw⟩ => ⟨he, by rw [← hw]; exact Below.refl _ _⟩)
    have c4 : Hid (∀ w, Calls Tryd.prog 22 #[.string s] w fun e w' => e = .returned (.string R) ∧ w = w') := Lib.hid (fun w => refQuote_any s R (Lib.hid hR) w hs)
    clear hR
    obtain ⟨nm, hnm⟩ : ∃ b, isName s = b := ⟨_, rfl⟩
    rw [hnm] at c1 c2
    clear hnm
    go_enter Tryd.func5, Tryd.ntmps5
    go_wp2_with fail
    refine (awake_any _ hg'.out).mono ?_
    rintro e w1 ⟨rfl, hb⟩
    have B1 := Lib.hid hb
    clear hb
    go_wp2_with fail
    refine (c1.out _).mono ?_
    rintro e w2 ⟨rfl, rfl⟩
    go_wp2_with fail
    refine (c2.out _).mono ?_
    rintro e w2 ⟨rfl, rfl⟩
    go_wp2_with fail
    refine (c3.out _ (hg'.out.below B1.out h4)).mono ?_
    rintro e w2 ⟨rfl, hb⟩
    have B2 := Lib.hid (B1.out.trans (hb.mono B1.out.size))
    clear hb
    go_wp2_with fail
    refine (c4.out _).mono ?_
    rintro e w3 ⟨rfl, rfl⟩
    go_wp2
    go_ret
    exact ⟨rfl, B2.out⟩
end Go.Proofs.YtgadnlnclpoeaaaDoor
