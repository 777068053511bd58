/- The law WordQuotes: its walk. Condition: the library's variable holds a number (Gl). -/
import Derived.Test.YtgpkhpheomaiaaaDoorQuM
namespace Go.Proofs.YtgpkhpheomaiaaaDoor
open Go.RowKit Go.PlainAid
attribute [local go_sem] Oper.semAt_some

theorem quo_any (s : ByteArray) (hs : s.size ≤ 100000) (w : World) (hg : Gl w) : Calls Tryd.prog 7 #[.string s] w fun e w' => e = .returned (.string (quoT s)) ∧ Below w.heap.size w w' := by
  unfold quoT
  cases h : isSafe s
  · exact quote_not s hs w hg h
  · exact (quote_safe s (by unfold maxLen; omega) w h).mono fun e w' ⟨h1, h2⟩ => ⟨h1, h2 ▸ Below.refl _ _⟩

set_option maxRecDepth 100000 in
set_option maxHeartbeats 4000000 in
theorem quotes_law (s : ByteArray) (w : World) (z : s.data.toList.length ≤ reachBytes) (hg : Gl w) : Calls Tryd.prog 3 #[.string s] w fun e w' => e = .returned (.bool true) ∧ Below w.heap.size w w' := by
  have hs : s.size ≤ 9223372036854775807 := by rw [Lib.size_eq]; unfold reachBytes at z; omega
  have hgH := Lib.hid hg
  have hgs := hg.size
  clear hg z
  go_enter Tryd.func3, Tryd.ntmps3
  go_wp2_with fail
  refine (awake_any _).mono ?_
  rintro e w1 ⟨rfl, hb1⟩
  have hb1H := Lib.hid hb1
  have hg1 := Lib.hid (hgH.out.below hb1 hgs)
  clear hb1
  by_cases h3 : 3000 < s.size
  · go_wp2
    go_ret
    exact ⟨rfl, hb1H.out⟩
  · obtain ⟨q, hq⟩ := quo_top s
    have hz := quoT_size s
    have hc := Lib.hid (fun w => pr_good (Parts_any (quoT s) 0 w (by omega)) hq)
    clear hq hz
    go_wp2_with fail
    refine (quo_any s (by omega) w1 hg1.out).mono ?_
    rintro e w2 ⟨rfl, hb2⟩
    have hb2H := Lib.hid (hb1H.out.trans (hb2.mono hb1H.out.size))
    clear hb2
    go_wp2_with fail
    refine (hc.out _).mono ?_
    rintro e w3 ⟨a, c, T, rfl, hW, hT, hb3⟩
    have hst := Lib.hid (static_any hW (fun g hg => (hT g hg).2) (by show (⟨s.data.toList.toArray⟩ : ByteArray).size + 0 ≤ _; rw [mk_data]; omega) (by show 1 ≤ _; omega))
    have hb3H := Lib.hid (hb2H.out.trans (hb3.mono hb2H.out.size))
    clear hW hT hb3
    go_wp2_with fail
    refine hst.out.mono ?_
    rintro e w4 ⟨rfl, hb4⟩
    have hfin := Lib.hid (hb3H.out.trans (hb4.mono hb3H.out.size))
    clear hb4
    rw [lits_one, show StatV (some s.data.toList) = .tuple #[.string s, .bool true] by show Value.tuple #[.string (⟨s.data.toList.toArray⟩ : ByteArray), .bool true] = _; rw [mk_data]]
    go_wp2
    go_ret
    exact ⟨rfl, hfin.out⟩
end Go.Proofs.YtgpkhpheomaiaaaDoor
