/- whole, End of lex: contracts over plain functions. No condition. -/
import Derived.Test.YtnhbcmhinhncfaaGreatDoorScD
namespace Go.Proofs.YtnhbcmhinhncfaaGreatDoor
open Go.RowKit Go.PlainAid
attribute [local go_sem] Oper.semAt_some

theorem idx_neg {l : List UInt8} {c : UInt8} (h : ¬ 0 ≤ Lib.indexByte l c) : Lib.indexByte l c = -1 := by
  have := Lib.indexByte_ge l c
  omega

set_option maxHeartbeats 1000000 in
theorem quote_whole (s : ByteArray) (d : Int) (i : Nat) (q : Bool) (w : World) (hs : s.size ≤ 100000) (hi : i < s.size) (h1 : (bt s i == 39) = true) :
    Calls Tryz.prog 83 #[.string s, .int .i64 i, .int .i64 d, .bool q] w fun e w' => e = .returned (sqM s i).v ∧ w = w' := by
  have hb := get_bt s
  have hq : Hid (Lib.indexByte (ByteArray.extract s (i + 1) s.size).data.toList (Int.toNat 39).toUInt8 = qIdx s i) := Lib.hid rfl
  by_cases h0 : 0 ≤ qIdx s i
  · have hlt := qIdx_lt h0
    obtain ⟨n, hn⟩ : ∃ n : Nat, qIdx s i = n := ⟨(qIdx s i).toNat, by omega⟩
    have hr : Hid (sqM s i = ⟨i + 1 + n + 1, 0, 0⟩) := Lib.hid (by unfold sqM; rw [if_pos h0, hn]; rfl)
    rw [hn] at hlt hq
    have hlt2 : i + 1 + n < s.size := hlt
    clear h0 hn hlt
    go_enter Tryz.func83, Tryz.ntmps83
    go_wp2_with (go_at_call 25; refine (Tryz.strings_IndexByte _ _ _).mono ?_; rintro e w' ⟨rfl, rfl⟩; rw [hq.out])
    go_ret3
    rw [hr.out]
    exact ⟨ret_r3 (by simp) rfl rfl, rfl⟩
  · have hn := idx_neg h0
    have hr : Hid (sqM s i = ⟨0, i, 53⟩) := Lib.hid (by unfold sqM; rw [if_neg h0])
    have hq' : Hid (Lib.indexByte (ByteArray.extract s (i + 1) s.size).data.toList (Int.toNat 39).toUInt8 = -1) := Lib.hid (hq.out.trans hn)
    clear h0 hn
    go_enter Tryz.func83, Tryz.ntmps83
    go_wp2_with (go_at_call 25; refine (Tryz.strings_IndexByte _ _ _).mono ?_; rintro e w' ⟨rfl, rfl⟩; rw [hq'.out])
    go_ret3
    rw [hr.out]
    exact ⟨rfl, rfl⟩
/-- What pass answers within. -/
def pIn (s : ByteArray) (k : Nat) (q : Bool) (j : Nat) : R3 := passM (wholeM s k) s j q
theorem whole_succ (s : ByteArray) (k i : Nat) (q : Bool) : wholeM s (k + 1) i q = if bt s i == 39 then sqM s i
      else if bt s i == 34 then loopM (pIn s k true) s i 34 s.size (i + 1)
      else if bt s (i + 1) == 40 then cmdM (pIn s k false) s i s.size (i + 1) 0
      else loopM (pIn s k q) s i 125 s.size (i + 2) := rfl
theorem whole_zero (s : ByteArray) (i : Nat) (q : Bool) : wholeM s 0 i q = if bt s i == 39 then sqM s i else ⟨0, i, 52⟩ := rfl
theorem whole_paren {s : ByteArray} {k i : Nat} {q : Bool} (h1 : (bt s i == 39) = false) (h2 : (bt s i == 34) = false) (h3 : (bt s (i + 1) == 40) = true) : wholeM s (k + 1) i q = cmdM (pIn s k false) s i s.size (i + 1) 0 := by
  rw [whole_succ, h1, h2, h3, if_neg (by decide), if_neg (by decide), if_pos rfl]
theorem whole_brace {s : ByteArray} {k i : Nat} {q : Bool} (h1 : (bt s i == 39) = false) (h2 : (bt s i == 34) = false) (h3 : (bt s (i + 1) == 40) = false) : wholeM s (k + 1) i q = loopM (pIn s k q) s i 125 s.size (i + 2) := by
  rw [whole_succ, h1, h2, h3, if_neg (by decide), if_neg (by decide), if_neg (by decide)]
theorem whole_double {s : ByteArray} {k i : Nat} {q : Bool} (h1 : (bt s i == 39) = false) (h2 : (bt s i == 34) = true) : wholeM s (k + 1) i q = loopM (pIn s k true) s i 34 s.size (i + 1) := by
  rw [whole_succ, h1, h2, if_neg (by decide), if_pos rfl]
theorem whole_single {s : ByteArray} {k i : Nat} {q : Bool} (h1 : (bt s i == 39) = true) : wholeM s k i q = sqM s i := by
  cases k with
  | zero => rw [whole_zero, h1, if_pos rfl]
  | succ k => rw [whole_succ, h1, if_pos rfl]
theorem beg_brace {s : ByteArray} {i : Nat} {q : Bool} (h : begM s i q = true) (h1 : (bt s i == 39) = false) (h2 : (bt s i == 34) = false) : i + 1 < s.size := by
  unfold begM at h
  rw [h1, h2, if_neg (by decide), if_neg (by decide)] at h
  split at h
  · simp at h; exact h.1
  · cases h

set_option maxHeartbeats 1000000 in
theorem whole_any (s : ByteArray) (hs : s.size ≤ 100000) : ∀ (k : Nat) (d : Int), d + k = 24 → 0 ≤ d → Whole s d (wholeM s k)
  | 0, d, hd, _ => by
    intro i q w hi hbeg
    have hb := get_bt s
    cases h1 : (bt s i == 39)
    · have hr : Hid (wholeM s 0 i q = ⟨0, i, 52⟩) := Lib.hid (by rw [whole_zero, h1]; rfl)
      obtain rfl : d = 24 := by omega
      clear hbeg hd
      go_enter Tryz.func83, Tryz.ntmps83
      go_wp2
      go_ret3
      rw [hr.out]
      exact ⟨rfl, rfl⟩
    · have hr : Hid (wholeM s 0 i q = sqM s i) := Lib.hid (whole_single h1)
      rw [hr.out]
      exact quote_whole s d i q w hs hi h1
  | k + 1, d, hd, hd0 => by
    intro i q w hi hbeg
    have ih := whole_any s hs k (d + 1) (by omega) (by omega)
    have hb := get_bt s
    have hd2 : d ≤ 23 := by omega
    have hd3 : ¬ 24 ≤ d := by omega
    cases h1 : (bt s i == 39)
    · have hin : Hid (∀ (b : Bool) (j : Nat) (w : World), j < s.size → Calls Tryz.prog 69 #[.string s, .int .i64 j, .int .i64 (d + 1), .bool b] w fun e w' => e = .returned (pIn s k b j).v ∧ w = w') := Lib.hid (fun b j w hj => pass_any s (d + 1) _ ih j b w hs hj)
      have hgd : Hid (∀ (b : Bool) (j : Nat), j < s.size → Good s j (pIn s k b j)) := Lib.hid (fun b j hj => pass_good hj (fun _ => whole_good s k j b hj))
      cases h2 : (bt s i == 34)
      · have hlt := beg_brace hbeg h1 h2
        cases h3 : (bt s (i + 1) == 40)
        · have hr : Hid (wholeM s (k + 1) i q = loopM (pIn s k q) s i 125 s.size (i + 2)) := Lib.hid (whole_brace h1 h2 h3)
          have hc := Lib.hid (fun w => braces_any s (d + 1) q (pIn s k q) (Lib.hid (hin.out q)) (Lib.hid (hgd.out q)) i w hs hlt)
          clear hbeg hd ih
          go_enter Tryz.func83, Tryz.ntmps83
          go_wp2_with (go_at_call 94; refine (hc.out _).mono ?_; rintro e w' ⟨rfl, rfl⟩)
          go_ret3
          rw [hr.out]
          exact ⟨rfl, rfl⟩
        · have hr : Hid (wholeM s (k + 1) i q = cmdM (pIn s k false) s i s.size (i + 1) 0) := Lib.hid (whole_paren h1 h2 h3)
          have hc := Lib.hid (fun w => command_any s (d + 1) (pIn s k false) (Lib.hid (hin.out false)) (Lib.hid (hgd.out false)) i w hs hi h3)
          clear hbeg hd ih
          go_enter Tryz.func83, Tryz.ntmps83
          go_wp2_with (go_at_call 93; refine (hc.out _).mono ?_; rintro e w' ⟨rfl, rfl⟩)
          go_ret3
          rw [hr.out]
          exact ⟨rfl, rfl⟩
      · have hr : Hid (wholeM s (k + 1) i q = loopM (pIn s k true) s i 34 s.size (i + 1)) := Lib.hid (whole_double h1 h2)
        have hc := Lib.hid (fun w => double_any s (d + 1) (pIn s k true) (Lib.hid (hin.out true)) (Lib.hid (hgd.out true)) i w hs hi)
        clear hbeg hd ih
        go_enter Tryz.func83, Tryz.ntmps83
        go_wp2_with (go_at_call 92; refine (hc.out _).mono ?_; rintro e w' ⟨rfl, rfl⟩)
        go_ret3
        rw [hr.out]
        exact ⟨rfl, rfl⟩
    · have hr : Hid (wholeM s (k + 1) i q = sqM s i) := Lib.hid (whole_single h1)
      rw [hr.out]
      exact quote_whole s d i q w hs hi h1
end Go.Proofs.YtnhbcmhinhncfaaGreatDoor
