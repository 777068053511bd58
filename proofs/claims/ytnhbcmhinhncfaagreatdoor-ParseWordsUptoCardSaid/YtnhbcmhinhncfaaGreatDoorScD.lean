/- command of lex: what it answers. No condition. -/
import Derived.Test.YtnhbcmhinhncfaaGreatDoorScB
namespace Go.Proofs.YtnhbcmhinhncfaaGreatDoor
open Go.RowKit Go.PlainAid
attribute [local go_sem] Oper.semAt_some

section
variable {p : Nat → R3} {s : ByteArray} {b f i o : Nat} {r : R3}
theorem cmd_on (hi : i < s.size) (h1 : (bt s i == 40) = false) (h2 : (bt s i == 41) = false) (hr : p i = r) (he : r.err = 0) : cmdM p s b (f + 1) i o = cmdM p s b f r.next o := by
  subst hr; rw [cmdM, if_pos hi, h1, h2, if_neg (by decide), if_neg (by decide), if_pos he]
theorem cmd_bad (hi : i < s.size) (h1 : (bt s i == 40) = false) (h2 : (bt s i == 41) = false) (hr : p i = r) (he : r.err ≠ 0) : cmdM p s b (f + 1) i o = ⟨0, r.place, r.err⟩ := by
  subst hr; rw [cmdM, if_pos hi, h1, h2, if_neg (by decide), if_neg (by decide), if_neg he]
theorem cmd_open (hi : i < s.size) (h1 : (bt s i == 40) = true) : cmdM p s b (f + 1) i o = cmdM p s b f (i + 1) (o + 1) := by
  rw [cmdM, if_pos hi, h1, if_pos rfl]
theorem cmd_shut (hi : i < s.size) (h1 : (bt s i == 40) = false) (h2 : (bt s i == 41) = true) (ho : o ≠ 1) : cmdM p s b (f + 1) i o = cmdM p s b f (i + 1) (o - 1) := by
  rw [cmdM, if_pos hi, h1, h2, if_neg (by decide), if_pos rfl, if_neg ho]
theorem cmd_done (hi : i < s.size) (h1 : (bt s i == 40) = false) (h2 : (bt s i == 41) = true) (ho : o = 1) : cmdM p s b (f + 1) i o = ⟨i + 1, 0, 0⟩ := by
  rw [cmdM, if_pos hi, h1, h2, if_neg (by decide), if_pos rfl, if_pos ho]
theorem cmd_end (hi : ¬ i < s.size) : cmdM p s b f i o = ⟨0, b, 53⟩ := by
  cases f with
  | zero => rfl
  | succ f => rw [cmdM, if_neg hi]
end

set_option maxHeartbeats 1000000 in
theorem command_any (s : ByteArray) (d : Int) (P : Nat → R3) (hp : Hid (∀ i w, i < s.size → Calls Tryz.prog 69 #[.string s, .int .i64 i, .int .i64 d, .bool false] w fun e w' => e = .returned (P i).v ∧ w = w')) (hg : Hid (∀ i, i < s.size → Good s i (P i)))
    (b : Nat) (w : World) (hs : s.size ≤ 100000) (hi : b < s.size) (h40 : (bt s (b + 1) == 40) = true) :
    Calls Tryz.prog 93 #[.string s, .int .i64 b, .int .i64 d] w fun e w' => e = .returned (cmdM P s b s.size (b + 1) 0).v ∧ w = w' := by
  have hb := get_bt s
  have h40H := Lib.hid h40
  clear h40
  go_enter Tryz.func93, Tryz.ntmps93
  go_wp2
  go_step3
  go_wp2
  go_step3
  go_wp2
  go_loop [9, 10] (fun u v => ∃ i f o : Nat, i ≤ s.size ∧ s.size ≤ i + f ∧ o ≤ i ∧ (o = 0 → i = b + 1) ∧ u = .int .i64 o ∧ v = .int .i64 i ∧ Hid (cmdM P s b s.size (b + 1) 0 = cmdM P s b f i o)) (fun _ v => s.size - (intOf v).toNat)
  case atStart => exact ⟨b + 1, s.size, 0, by omega, by omega, by omega, fun _ => rfl, by go_num, by go_num, Lib.hid rfl⟩
  case round =>
    obtain ⟨i, f, o, hi, hf, ho, hob, rfl, rfl, hm⟩ := hrel
    have hobH := Lib.hid hob
    clear hob
    by_cases hlt : i < s.size
    · obtain ⟨f, rfl⟩ : ∃ g, f = g + 1 := ⟨f - 1, by omega⟩
      cases h1 : (bt s i == 40)
      · have hpos : 1 ≤ o := by
          rcases Nat.eq_zero_or_pos o with h | h
          · have := hobH.out h
            rw [this, h40H.out] at h1
            cases h1
          · exact h
        cases h2 : (bt s i == 41)
        · obtain ⟨⟨n, pl, er⟩, hP⟩ : ∃ r, P i = r := ⟨_, rfl⟩
          have hgi := hg.out i hlt
          rw [hP] at hgi
          have hcall := Lib.hid (fun w => hp.out i w hlt)
          rw [hP] at hcall
          have hPH := Lib.hid hP
          clear hP
          by_cases he : er = 0
          · obtain ⟨hn1, hn2⟩ := hgi he
            have hE := eq_err he
            have hHe := Lib.hid he
            replace hn1 : i < n := hn1
            replace hn2 : n ≤ s.size := hn2
            clear he hgi
            go_wp2_with (go_at_call 69; refine (hcall.out _).mono ?_; rintro e w' ⟨rfl, rfl⟩)
            go_round
            case rel => exact ⟨n, f, o, by omega, by omega, by omega, fun h => absurd h (by omega), rfl, rfl, Lib.hid (by rw [hm.out, cmd_on hlt h1 h2 hPH.out hHe.out])⟩
            case measure => simp [intOf]; omega
          · have hE := ne_err he
            have hHe := Lib.hid he
            clear he hgi
            go_wp2_with (go_at_call 69; refine (hcall.out _).mono ?_; rintro e w' ⟨rfl, rfl⟩)
            rw [Exit.noGoto_ret]
            go_ret3
            rw [hm.out, cmd_bad hlt h1 h2 hPH.out hHe.out]
            exact ⟨rfl, rfl⟩
        · obtain ⟨o, rfl⟩ : ∃ g, o = g + 1 := ⟨o - 1, by omega⟩
          by_cases h0 : o = 0
          · subst h0
            go_wp2
            go_ret3
            rw [hm.out, cmd_done hlt h1 h2 rfl]
            exact ⟨ret_r3 (by simp) rfl rfl, rfl⟩
          · have hz : ((o : Int) == 0) = false := by simp; omega
            have h0H := Lib.hid h0
            clear h0
            go_wp2
            go_round
            case rel => exact ⟨i + 1, f, o, by omega, by omega, by omega, fun h => absurd h h0H.out, by go_num, by go_num, Lib.hid (by rw [hm.out, cmd_shut hlt h1 h2 (by have := h0H.out; omega)]; rfl)⟩
            case measure => simp [intOf]; omega
      · go_wp2
        go_round
        case rel => exact ⟨i + 1, f, o + 1, by omega, by omega, by omega, fun h => absurd h (by omega), by go_num, by go_num, Lib.hid (by rw [hm.out, cmd_open hlt h1])⟩
        case measure => simp [intOf]; omega
    · obtain rfl : i = s.size := by omega
      go_wp2
      go_ret3
      rw [hm.out, cmd_end hlt]
      exact ⟨rfl, rfl⟩
end Go.Proofs.YtnhbcmhinhncfaaGreatDoor
