/- double, command, parameter, whole, End of lex: contracts over plain functions. No condition. -/
import Derived.Test.YtnhbcmhinhncfaaGreatDoorScA
namespace Go.Proofs.YtnhbcmhinhncfaaGreatDoor
open Go.RowKit Go.PlainAid
attribute [local go_sem] Oper.semAt_some

theorem loop_on {p : Nat → R3} {s : ByteArray} {b : Nat} {c : Int} {f i : Nat} {r : R3} (hi : i < s.size) (hc : (bt s i == c) = false) (hr : p i = r) (he : r.err = 0) : loopM p s b c (f + 1) i = loopM p s b c f r.next := by
  subst hr; rw [loopM, if_pos hi, hc, if_neg (by decide), if_pos he]
theorem loop_bad {p : Nat → R3} {s : ByteArray} {b : Nat} {c : Int} {f i : Nat} {r : R3} (hi : i < s.size) (hc : (bt s i == c) = false) (hr : p i = r) (he : r.err ≠ 0) : loopM p s b c (f + 1) i = ⟨0, r.place, r.err⟩ := by
  subst hr; rw [loopM, if_pos hi, hc, if_neg (by decide), if_neg he]
theorem loop_done {p : Nat → R3} {s : ByteArray} {b : Nat} {c : Int} {f i : Nat} (hi : i < s.size) (hc : (bt s i == c) = true) : loopM p s b c (f + 1) i = ⟨i + 1, 0, 0⟩ := by
  rw [loopM, if_pos hi, hc, if_pos rfl]
theorem loop_end {p : Nat → R3} {s : ByteArray} {b : Nat} {c : Int} {f i : Nat} (hi : ¬ i < s.size) : loopM p s b c f i = ⟨0, b, 53⟩ := by
  cases f with
  | zero => rfl
  | succ f => rw [loopM, if_neg hi]
theorem ne_err {n : Nat} (h : n ≠ 0) : ((n : Int) != 0) = true := by simp; omega
theorem eq_err {n : Nat} (h : n = 0) : ((n : Int) != 0) = false := by simp; omega

set_option maxHeartbeats 1000000 in
theorem double_any (s : ByteArray) (d : Int) (P : Nat → R3) (hp : Hid (∀ i w, i < s.size → Calls Tryz.prog 69 #[.string s, .int .i64 i, .int .i64 d, .bool true] w fun e w' => e = .returned (P i).v ∧ w = w')) (hg : Hid (∀ i, i < s.size → Good s i (P i)))
    (b : Nat) (w : World) (hs : s.size ≤ 100000) (hi : b < s.size) :
    Calls Tryz.prog 92 #[.string s, .int .i64 b, .int .i64 d] w fun e w' => e = .returned (loopM P s b 34 s.size (b + 1)).v ∧ w = w' := by
  have hb := get_bt s
  go_enter Tryz.func92, Tryz.ntmps92
  go_wp2
  go_loop [9] (fun v => ∃ i f : Nat, i ≤ s.size ∧ s.size ≤ i + f ∧ v = .int .i64 i ∧ Hid (loopM P s b 34 s.size (b + 1) = loopM P s b 34 f i)) (fun v => s.size - (intOf v).toNat)
  case atStart => exact ⟨b + 1, s.size, by omega, by omega, by go_num, Lib.hid rfl⟩
  case round =>
    obtain ⟨i, f, hi, hf, rfl, hm⟩ := hrel
    by_cases hlt : i < s.size
    · obtain ⟨f, rfl⟩ : ∃ g, f = g + 1 := ⟨f - 1, by omega⟩
      cases h1 : (bt s i == 34)
      · obtain ⟨⟨n, pl, er⟩, hP⟩ : ∃ r, P i = r := ⟨_, rfl⟩
        have hgi := hg.out i hlt
        rw [hP] at hgi
        have hcall := Lib.hid (fun w => hp.out i w hlt)
        rw [hP] at hcall
        have hPH := Lib.hid hP
        clear hP
        by_cases he : er = 0
        · obtain ⟨hn1, hn2⟩ := hgi he
          have hE := eq_err he
          have hHe := Lib.hid he
          replace hn1 : i < n := hn1
          replace hn2 : n ≤ s.size := hn2
          clear he hgi
          go_wp2_with (go_at_call 69; refine (hcall.out _).mono ?_; rintro e w' ⟨rfl, rfl⟩)
          go_round
          case rel => exact ⟨n, f, by omega, by omega, rfl, Lib.hid (by rw [hm.out, loop_on hlt h1 hPH.out hHe.out])⟩
          case measure => simp [intOf]; omega
        · have hE := ne_err he
          have hHe := Lib.hid he
          clear he hgi
          go_wp2_with (go_at_call 69; refine (hcall.out _).mono ?_; rintro e w' ⟨rfl, rfl⟩)
          go_ret3
          rw [hm.out, loop_bad hlt h1 hPH.out hHe.out]
          exact ⟨rfl, rfl⟩
      · go_wp2
        go_ret3
        rw [hm.out, loop_done hlt h1]
        exact ⟨ret_r3 (by simp) rfl rfl, rfl⟩
    · obtain rfl : i = s.size := by omega
      go_wp2
      go_ret3
      rw [hm.out, loop_end hlt]
      exact ⟨rfl, rfl⟩

set_option maxHeartbeats 1000000 in
theorem braces_any (s : ByteArray) (d : Int) (q : Bool) (P : Nat → R3) (hp : Hid (∀ i w, i < s.size → Calls Tryz.prog 69 #[.string s, .int .i64 i, .int .i64 d, .bool q] w fun e w' => e = .returned (P i).v ∧ w = w')) (hg : Hid (∀ i, i < s.size → Good s i (P i)))
    (b : Nat) (w : World) (hs : s.size ≤ 100000) (hi : b + 1 < s.size) :
    Calls Tryz.prog 94 #[.string s, .int .i64 b, .int .i64 d, .bool q] w fun e w' => e = .returned (loopM P s b 125 s.size (b + 2)).v ∧ w = w' := by
  have hb := get_bt s
  go_enter Tryz.func94, Tryz.ntmps94
  go_wp2
  go_loop [11] (fun v => ∃ i f : Nat, i ≤ s.size ∧ s.size ≤ i + f ∧ v = .int .i64 i ∧ Hid (loopM P s b 125 s.size (b + 2) = loopM P s b 125 f i)) (fun v => s.size - (intOf v).toNat)
  case atStart => exact ⟨b + 2, s.size, by omega, by omega, by go_num, Lib.hid rfl⟩
  case round =>
    obtain ⟨i, f, hi, hf, rfl, hm⟩ := hrel
    by_cases hlt : i < s.size
    · obtain ⟨f, rfl⟩ : ∃ g, f = g + 1 := ⟨f - 1, by omega⟩
      cases h1 : (bt s i == 125)
      · obtain ⟨⟨n, pl, er⟩, hP⟩ : ∃ r, P i = r := ⟨_, rfl⟩
        have hgi := hg.out i hlt
        rw [hP] at hgi
        have hcall := Lib.hid (fun w => hp.out i w hlt)
        rw [hP] at hcall
        have hPH := Lib.hid hP
        clear hP
        by_cases he : er = 0
        · obtain ⟨hn1, hn2⟩ := hgi he
          have hE := eq_err he
          have hHe := Lib.hid he
          replace hn1 : i < n := hn1
          replace hn2 : n ≤ s.size := hn2
          clear he hgi
          go_wp2_with (go_at_call 69; refine (hcall.out _).mono ?_; rintro e w' ⟨rfl, rfl⟩)
          go_round
          case rel => exact ⟨n, f, by omega, by omega, rfl, Lib.hid (by rw [hm.out, loop_on hlt h1 hPH.out hHe.out])⟩
          case measure => simp [intOf]; omega
        · have hE := ne_err he
          have hHe := Lib.hid he
          clear he hgi
          go_wp2_with (go_at_call 69; refine (hcall.out _).mono ?_; rintro e w' ⟨rfl, rfl⟩)
          go_ret3
          rw [hm.out, loop_bad hlt h1 hPH.out hHe.out]
          exact ⟨rfl, rfl⟩
      · go_wp2
        go_ret3
        rw [hm.out, loop_done hlt h1]
        exact ⟨ret_r3 (by simp) rfl rfl, rfl⟩
    · obtain rfl : i = s.size := by omega
      go_wp2
      go_ret3
      rw [hm.out, loop_end hlt]
      exact ⟨rfl, rfl⟩
end Go.Proofs.YtnhbcmhinhncfaaGreatDoor
