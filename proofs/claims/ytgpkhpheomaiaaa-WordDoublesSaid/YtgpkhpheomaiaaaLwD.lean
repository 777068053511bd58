/- The law WordDoubles: its walk. No condition. -/
import Derived.Test.YtgpkhpheomaiaaaLwC
namespace Go.Proofs.Ytgpkhpheomaiaaa
open Go.RowKit Go.PlainAid
attribute [local go_sem] Oper.semAt_some

set_option maxRecDepth 100000 in
set_option maxHeartbeats 8000000 in
theorem doubles_law (s : ByteArray) (w : World) (hs : s.size ≤ maxLen) : Calls Try.prog 5 #[.string s] w fun e w' => e = .returned (.bool true) ∧ Below w.heap.size w w' := by
  unfold maxLen at hs
  have hb := get_bt s
  go_enter Try.func5, Try.ntmps5
  go_wp2_with fail
  refine (awake_any _).mono ?_
  rintro e w1 ⟨rfl, hb1⟩
  have hb1H := Lib.hid hb1
  clear hb1
  by_cases h3 : 3000 < s.size
  · go_wp2
    go_ret
    exact ⟨rfl, hb1H.out⟩
  · go_wp2
    go_loop [3] (fun v => ∃ i : Nat, i ≤ s.size ∧ v = .int .i64 i ∧ Hid (∀ j, j < i → PlainC (bt s j))) (fun v => s.size - (intOf v).toNat)
    case atStart => exact ⟨0, Nat.zero_le _, by go_num, Lib.hid (fun j h => absurd h (Nat.not_lt_zero _))⟩
    case round =>
      obtain ⟨i, hi, rfl, hpl⟩ := hrel
      by_cases hlt : i < s.size
      · cases k1 : (bt s i == 36)
        · cases k2 : (bt s i == 92)
          · cases k3 : (bt s i == 34)
            · cases k4 : (bt s i == 96)
              · have hnext : Hid (∀ j, j < i + 1 → PlainC (bt s j)) := Lib.hid (fun j h => by
                  by_cases e : j = i
                  · subst e; exact ⟨by simpa using k1, by simpa using k2, by simpa using k3, by simpa using k4⟩
                  · exact hpl.out j (by omega))
                go_wp2
                go_round
                case rel => exact ⟨i + 1, by omega, by go_num, hnext⟩
                case measure => simp [intOf]; omega
              · go_wp2
                go_ret
                exact ⟨rfl, hb1H.out⟩
            · go_wp2
              go_ret
              exact ⟨rfl, hb1H.out⟩
          · go_wp2
            go_ret
            exact ⟨rfl, hb1H.out⟩
        · go_wp2
          go_ret
          exact ⟨rfl, hb1H.out⟩
      · obtain rfl : i = s.size := by omega
        have hd := dq_parts s hpl.out
        obtain ⟨m, hm, hl, ht, hml⟩ := body_parts s hpl.out
        have hz := dq_size s
        have hc1 := Lib.hid (pr_good (Parts_any (dqT s) 0 w1 (by omega)) hd)
        have hc2 := Lib.hid (fun w => pr_good (Parts_any s 2 w (by omega)) hm)
        have hlH := Lib.hid hl
        clear hd hm hz hl
        go_wp2_with fail
        refine hc1.out.mono ?_
        rintro e w2 ⟨a, c, T, rfl, hW, hT, hb2⟩
        obtain ⟨g, x, p, rfl, hTg, hp, hx, c0, c1, c2, c3, c4⟩ := part_at (j := 0) hW (Nat.zero_lt_one)
        cases hp
        rw [Nat.zero_mul] at c0 c1 c4
        rw [hx.1] at c0
        rw [hx.2.1] at c1
        rw [hx.2.2.2.1] at c4
        have hgl := (hT g hTg).2
        have hb2H := Lib.hid hb2
        clear c2 c3 hW hT hx hb2
        go_wp2_with fail
        refine (hc2.out _).mono ?_
        rintro e w3 ⟨a2, cc2, T2, rfl, hW2, hT2, hb3⟩
        have d0 : w3.cell? ⟨g, 0, none⟩ = some (.int .i64 1) := (hb3.cell hgl).trans c0
        have d1 : w3.cell? ⟨g, 1, none⟩ = some (.string s) := (hb3.cell hgl).trans (by rw [c1]; show some (Value.string (⟨s.data.toList.toArray⟩ : ByteArray)) = _; rw [mk_data])
        have d4 : w3.cell? ⟨g, 4, none⟩ = some (.bool true) := (hb3.cell hgl).trans c4
        have hst := Lib.hid (static_any hW2 (fun g hg => (hT2 g hg).2) (by omega) (by omega))
        have hbb := Lib.hid (hb1H.out.trans ((hb2H.out.trans (hb3.mono hb2H.out.size)).mono hb1H.out.size))
        clear c0 c1 c4 hW2 hT2 hb3
        go_wp2_with fail
        refine hst.out.mono ?_
        rintro e w4 ⟨rfl, hb4⟩
        have hfin := Lib.hid (hbb.out.trans (hb4.mono hbb.out.size))
        clear hb4
        rw [hlH.out, show StatV (some s.data.toList) = .tuple #[.string s, .bool true] by show Value.tuple #[.string (⟨s.data.toList.toArray⟩ : ByteArray), .bool true] = _; rw [mk_data]]
        go_wp2
        go_ret
        exact ⟨rfl, hfin.out⟩
end Go.Proofs.Ytgpkhpheomaiaaa
