/- The number that a text begins with: contract. No condition but that the text is short. -/
import Derived.Test.YtjbmpockoicgmaaGreatArB
import Derived.IntWalk
namespace Go.Proofs.YtjbmpockoicgmaaGreat
open Go.RowKit Go.PlainAid
set_option linter.unusedVariables false
set_option linter.unusedSimpArgs false
attribute [local go_sem] Oper.semAt_some

theorem digV_le (c : Int) : 0 ≤ digV c ∧ digV c ≤ 16 := by unfold digV; (repeat' split) <;> omega
theorem base_le (s : ByteArray) : 8 ≤ baseOf s ∧ baseOf s ≤ 16 := by unfold baseOf; (repeat' split) <;> omega
theorem hexB_yes {s : ByteArray} (h : 2 < s.size ∧ bt s 0 = 48 ∧ (bt s 1 = 120 ∨ bt s 1 = 88) ∧ digV (bt s 2) < 16) : Value.bool true = .bool (hexB s) := by unfold hexB; rw [decide_eq_true h]
theorem hexB_no {s : ByteArray} (h : ¬ (2 < s.size ∧ bt s 0 = 48 ∧ (bt s 1 = 120 ∨ bt s 1 = 88) ∧ digV (bt s 2) < 16)) : Value.bool false = .bool (hexB s) := by unfold hexB; rw [decide_eq_false h]
theorem numRun_on {s : ByteArray} {b : Int} {f k : Nat} {n : Int} (h : k < s.size) (hd : digV (bt s k) < b) : numRun s b (f + 1) k n = numRun s b f (k + 1) (IntKind.u64.wrap (n * b + digV (bt s k))) := by rw [numRun, if_pos ⟨h, hd⟩]
theorem numRun_no {s : ByteArray} {b : Int} {f k : Nat} {n : Int} (hd : ¬ (k < s.size ∧ digV (bt s k) < b)) : numRun s b f k n = (k, n) := by
  cases f with
  | zero => rfl
  | succ f => rw [numRun, if_neg hd]
theorem wrap_wrap (x d : Int) : IntKind.u64.wrap (IntKind.u64.wrap x + d) = IntKind.u64.wrap (x + d) := by
  rw [IntKind.wrap_u64, IntKind.wrap_u64, IntKind.wrap_u64]; omega
theorem wrap_in (x : Int) : 0 ≤ IntKind.u64.wrap x ∧ IntKind.u64.wrap x ≤ 18446744073709551615 := by rw [IntKind.wrap_u64]; omega
theorem ret_num {a b c d : Int} (h : a = c) (k : b = d) : Ending.returned (.tuple #[.int .i64 a, .int .i64 b]) = .returned (.tuple #[.int .i64 c, .int .i64 d]) := by rw [h, k]

set_option maxHeartbeats 4000000 in
theorem number_any (s : ByteArray) (w : World) (hs : s.size ≤ 9223372036854775807) : Calls Tryz.prog 39 #[.string s] w fun e w' => e = .returned (.tuple #[.int .i64 (numM s).1, .int .i64 (numM s).2]) ∧ Below w.heap.size w w' := by
  have hb := get_bt s
  have hb0H := Lib.hid (bt_nonneg s)
  have hb1H := Lib.hid (bt_le s)
  go_enter Tryz.func39, Tryz.ntmps39
  go_upto_region 2 with fail
  go_cut [31] (fun s31 wx => s31 = .bool (hexB s) ∧ w = wx)
  case first =>
    by_cases h0 : 2 < s.size
    · cases h1 : (bt s 0 == 48)
      · have hr := Lib.hid (hexB_no (s := s) (fun h => by rw [h.2.1] at h1; cases h1))
        go_wp2_with fail
        go_meet
        case rel => exact ⟨hr.out, rfl⟩
      · have e1 := Lib.hid (eq_of_beq h1)
        cases h2 : (bt s 1 == 120)
        · cases h3 : (bt s 1 == 88)
          · have hr := Lib.hid (hexB_no (s := s) (fun h => h.2.2.1.elim (fun e => by rw [beq_iff_eq.2 e] at h2; cases h2) (fun e => by rw [beq_iff_eq.2 e] at h3; cases h3)))
            go_wp2_with fail
            go_meet
            case rel => exact ⟨hr.out, rfl⟩
          · have e3 := Lib.hid (eq_of_beq h3)
            have z0 := hb0H.out 2
            have z1 := hb1H.out 2
            have hr := Lib.hid (show Value.bool (decide (digV (bt s 2) < 16)) = .bool (hexB s) from congrArg Value.bool (by unfold hexB; exact decide_eq_decide.2 ⟨fun h => ⟨h0, e1.out, .inr e3.out, h⟩, fun h => h.2.2.2⟩))
            go_wp2_with (go_at_call 57; refine (digit_any _ _ z0 z1).mono ?_; rintro e w' ⟨rfl, rfl⟩)
            go_meet
            case rel => exact ⟨hr.out, rfl⟩
        · have e3 := Lib.hid (eq_of_beq h2)
          have z0 := hb0H.out 2
          have z1 := hb1H.out 2
          have hr := Lib.hid (show Value.bool (decide (digV (bt s 2) < 16)) = .bool (hexB s) from congrArg Value.bool (by unfold hexB; exact decide_eq_decide.2 ⟨fun h => ⟨h0, e1.out, .inl e3.out, h⟩, fun h => h.2.2.2⟩))
          go_wp2_with (go_at_call 57; refine (digit_any _ _ z0 z1).mono ?_; rintro e w' ⟨rfl, rfl⟩)
          go_meet
          case rel => exact ⟨hr.out, rfl⟩
    · have hr := Lib.hid (hexB_no (s := s) (fun h => h0 h.1))
      go_wp2_with fail
      go_meet
      case rel => exact ⟨hr.out, rfl⟩
  case rest =>
    obtain ⟨rfl, rfl⟩ := hcut
    go_upto_if 31 with fail
    go_cut [4, 5] (fun s4 s5 wx => s4 = .int .u64 (baseOf s) ∧ s5 = .int .i64 (firstOf s) ∧ w = wx)
    case first =>
      cases hX : hexB s
      · have hf := Lib.hid (show firstOf s = 0 by unfold firstOf; rw [hX]; rfl)
        have hbb := Lib.hid (show baseOf s = if 0 < s.size ∧ bt s 0 = 48 then 8 else 10 by unfold baseOf; rw [hX]; rfl)
        by_cases hz : s.size = 0
        · have e0 := size0 hz
          subst e0
          go_wp2_with fail
          go_meet
          case rel => rw [hf.out, hbb.out]; exact ⟨rfl, rfl, rfl⟩
        · have hne : (!s.toList.isEmpty) = true := str_ne hz
          have h0 : 0 < s.size := by omega
          cases h1 : (bt s 0 == 48)
          · have e1 := Lib.hid (show baseOf s = 10 by rw [hbb.out, if_neg (fun h => by rw [h.2] at h1; cases h1)])
            go_wp2_with fail
            go_meet
            case rel => rw [hf.out, e1.out]; exact ⟨rfl, rfl, rfl⟩
          · have e1 := Lib.hid (show baseOf s = 8 by rw [hbb.out, if_pos ⟨h0, eq_of_beq h1⟩])
            go_wp2_with fail
            go_meet
            case rel => rw [hf.out, e1.out]; exact ⟨rfl, rfl, rfl⟩
      · have hf := Lib.hid (show firstOf s = 2 by unfold firstOf; rw [hX]; rfl)
        have hbb := Lib.hid (show baseOf s = 16 by unfold baseOf; rw [hX]; rfl)
        go_wp2_with fail
        go_meet
        case rel => rw [hf.out, hbb.out]; exact ⟨rfl, rfl, rfl⟩
    case rest =>
      obtain ⟨rfl, rfl, rfl⟩ := hcut
      have hfl := first_le s
      have hbl := base_le s
      have hrun := Lib.hid (show numR s = numRun s (baseOf s) s.size (firstOf s) 0 from rfl)
      have hbad := Lib.hid (show numBad s = (decide ((numR s).1 = firstOf s) || (decide ((numR s).1 < s.size) && partB (bt s (numR s).1))) from rfl)
      have hmm := Lib.hid (show numM s = if numBad s then (0, 0) else (IntKind.i64.wrap (numR s).2, (numR s).1) from rfl)
      obtain ⟨F, hF⟩ : ∃ F, firstOf s = F := ⟨_, rfl⟩
      obtain ⟨B, hB⟩ : ∃ B, baseOf s = B := ⟨_, rfl⟩
      rw [hF] at hfl hrun hbad ⊢
      rw [hB] at hbl hrun ⊢
      obtain ⟨hbl0, hbl1⟩ := hbl
      clear hF hB
      go_wp2_with fail
      go_loopw [5, 7] (fun v5 v7 wr => ∃ (k f : Nat) (n : Int), F ≤ k ∧ k ≤ s.size ∧ s.size ≤ k + f ∧ v5 = .int .i64 k ∧ v7 = .int .u64 n ∧ 0 ≤ n ∧ n ≤ 18446744073709551615 ∧ Hid (numR s = numRun s B f k n) ∧ w = wr) (fun v5 _ _ => s.size - (intOf v5).toNat)
      case atStart => exact ⟨F, s.size, 0, Nat.le_refl _, hfl, by omega, rfl, rfl, by omega, by omega, hrun, rfl⟩
      case round =>
        obtain ⟨k, f, n, hk0, hk1, hf, rfl, rfl, hn0, hn1, hm, rfl⟩ := hrel
        by_cases hlt : k < s.size
        · have z0 := hb0H.out k
          have z1 := hb1H.out k
          obtain ⟨d, hd⟩ : ∃ d, digV (bt s k) = d := ⟨_, rfl⟩
          have hdl := digV_le (bt s k)
          rw [hd] at hdl
          obtain ⟨hd0, hd1⟩ := hdl
          have hdg := Lib.hid (fun w => digit_any (bt s k) w z0 z1)
          rw [hd] at hdg
          by_cases hdb : d < B
          · obtain ⟨f, rfl⟩ : ∃ g, f = g + 1 := ⟨f - 1, by omega⟩
            have hr := Lib.hid (hm.out.trans (numRun_on hlt (by rw [hd]; exact hdb)))
            rw [hd] at hr
            clear hd
            go_wp2_with (go_at_call 57; refine (hdg.out _).mono ?_; rintro e w' ⟨rfl, rfl⟩)
            go_roundw
            case rel =>
              exact ⟨k + 1, f, IntKind.u64.wrap (n * B + d), by omega, by omega, by omega, by go_num, by first | rfl | rw [wrap_wrap], (wrap_in _).1, (wrap_in _).2, hr, trivial⟩
            case measure => simp [intOf]; omega
          · have hr := Lib.hid (hm.out.trans (numRun_no (fun h => hdb (hd ▸ h.2))))
            have hr1 := Lib.hid (show (numR s).1 = k from congrArg (·.1) hr.out)
            have hr2 := Lib.hid (show (numR s).2 = n from congrArg (·.2) hr.out)
            clear hd
            cases hkF : ((k : Int) == (F : Int))
            · have hkF' : ¬ k = F := fun e => by rw [e] at hkF; simp at hkF
              have hpt := Lib.hid (fun w => isPart_any (bt s k) w z0 z1)
              cases hP : partB (bt s k)
              all_goals
                have hb2 := Lib.hid (show numBad s = _ by rw [hbad.out, hr1.out, hP, decide_eq_false hkF', decide_eq_true hlt, Bool.false_or, Bool.true_and])
                have hm2 := Lib.hid (show numM s = _ from (hmm.out.trans (by rw [hb2.out, hr1.out, hr2.out])))
                have hPH := Lib.hid hP
                clear hP
                go_wp2_with (first | (go_at_call 57; refine (hdg.out _).mono ?_; rintro e w' ⟨rfl, rfl⟩) | (go_at_call 58; refine (hpt.out _).mono ?_; rintro e w' ⟨rfl, hb1⟩; rw [hPH.out]))
                go_ret2
                rw [hm2.out]
                exact ⟨by first | exact ret_num rfl rfl | exact ret_num (i64_is _).symm rfl, hb1⟩
            · have hkF' : k = F := by have := eq_of_beq hkF; omega
              have hb2 := Lib.hid (show numBad s = true by rw [hbad.out, hr1.out, decide_eq_true hkF']; exact Bool.true_or _)
              have hm2 := Lib.hid (show numM s = (0, 0) by rw [hmm.out, hb2.out]; exact rfl)
              clear hkF'
              go_wp2_with (go_at_call 57; refine (hdg.out _).mono ?_; rintro e w' ⟨rfl, rfl⟩)
              go_ret2
              rw [hm2.out]
              exact ⟨rfl, Below.refl _ _⟩
        · have hr := Lib.hid (hm.out.trans (numRun_no (fun h => hlt h.1)))
          have hr1 := Lib.hid (show (numR s).1 = k from congrArg (·.1) hr.out)
          have hr2 := Lib.hid (show (numR s).2 = n from congrArg (·.2) hr.out)
          cases hkF : ((k : Int) == (F : Int))
          · have hkF' : ¬ k = F := fun e => by rw [e] at hkF; simp at hkF
            have hb2 := Lib.hid (show numBad s = false by rw [hbad.out, hr1.out, decide_eq_false hkF', decide_eq_false hlt]; exact rfl)
            have hm2 := Lib.hid (show numM s = (IntKind.i64.wrap n, k) by rw [hmm.out, hb2.out, hr1.out, hr2.out]; exact rfl)
            go_wp2_with fail
            go_ret2
            rw [hm2.out]
            exact ⟨by first | exact ret_num rfl rfl | exact ret_num (i64_is _).symm rfl, Below.refl _ _⟩
          · have hkF' : k = F := by have := eq_of_beq hkF; omega
            have hb2 := Lib.hid (show numBad s = true by rw [hbad.out, hr1.out, decide_eq_true hkF']; exact Bool.true_or _)
            have hm2 := Lib.hid (show numM s = (0, 0) by rw [hmm.out, hb2.out]; exact rfl)
            clear hkF'
            go_wp2_with fail
            go_ret2
            rw [hm2.out]
            exact ⟨rfl, Below.refl _ _⟩
end Go.Proofs.YtjbmpockoicgmaaGreat
