/- How long a name, a bare parameter, a parameter is. No condition. -/
import Derived.Test.YtgpkhpheomaiaaaRdD
namespace Go.Proofs.Ytgpkhpheomaiaaa
open Go.RowKit Go.PlainAid
attribute [local go_sem] Oper.semAt_some

def nRun (s : ByteArray) : Nat → Nat → Nat
  | 0, n => n
  | f + 1, n => if n < s.size ∧ isName (⟨#[95]⟩ ++ s.extract n (n + 1)) = true then nRun s f (n + 1) else n
def nszM (s : ByteArray) : Nat := if isName (s.extract 0 (nRun s s.size 0)) then nRun s s.size 0 else 0
def bareM (s : ByteArray) : Nat := if 0 < nszM s then nszM s else if 0 < s.size ∧ 0 ≤ Lib.indexByte [48, 49, 50, 51, 52, 53, 54, 55, 56, 57, 64, 42, 35, 63, 36, 33] (Int.toNat (bt s 0)).toUInt8 then 1 else 0
def dRun (s : ByteArray) : Nat → Nat → Nat
  | 0, n => n
  | f + 1, n => if n < s.size ∧ 48 ≤ bt s n ∧ bt s n ≤ 57 then dRun s f (n + 1) else n
def pszM (s : ByteArray) : Nat := if 0 < dRun s s.size 0 then dRun s s.size 0 else bareM s

theorem nRun_le (s : ByteArray) : ∀ f n, n ≤ s.size → n ≤ nRun s f n ∧ nRun s f n ≤ s.size
  | 0, n, h => ⟨Nat.le_refl _, h⟩
  | f + 1, n, h => by
    unfold nRun
    split
    · rename_i h1
      have := nRun_le s f (n + 1) h1.1
      exact ⟨by omega, this.2⟩
    · exact ⟨Nat.le_refl _, h⟩
theorem nRun_on {s : ByteArray} {f n : Nat} (h : n < s.size) (hn : isName (⟨#[95]⟩ ++ s.extract n (n + 1)) = true) : nRun s (f + 1) n = nRun s f (n + 1) := by rw [nRun, if_pos ⟨h, hn⟩]
theorem nRun_no {s : ByteArray} {f n : Nat} (hn : isName (⟨#[95]⟩ ++ s.extract n (n + 1)) = false) : nRun s f n = n := by
  cases f with
  | zero => rfl
  | succ f => rw [nRun, if_neg (fun h => by rw [hn] at h; cases h.2)]
theorem nRun_end {s : ByteArray} {f n : Nat} (h : ¬ n < s.size) : nRun s f n = n := by
  cases f with
  | zero => rfl
  | succ f => rw [nRun, if_neg (fun h' => h h'.1)]
theorem nsz_le (s : ByteArray) : nszM s ≤ s.size := by
  unfold nszM
  split
  · exact (nRun_le s _ 0 (Nat.zero_le _)).2
  · exact Nat.zero_le _
theorem bare_le (s : ByteArray) : bareM s ≤ s.size := by
  unfold bareM
  split
  · exact nsz_le s
  · split
    · rename_i h; exact h.1
    · exact Nat.zero_le _
theorem dRun_le (s : ByteArray) : ∀ f n, n ≤ s.size → n ≤ dRun s f n ∧ dRun s f n ≤ s.size
  | 0, n, h => ⟨Nat.le_refl _, h⟩
  | f + 1, n, h => by
    unfold dRun
    split
    · rename_i h1
      have := dRun_le s f (n + 1) h1.1
      exact ⟨by omega, this.2⟩
    · exact ⟨Nat.le_refl _, h⟩
theorem dRun_on {s : ByteArray} {f n : Nat} (h : n < s.size) (h1 : 48 ≤ bt s n) (h2 : bt s n ≤ 57) : dRun s (f + 1) n = dRun s f (n + 1) := by rw [dRun, if_pos ⟨h, h1, h2⟩]
theorem dRun_no {s : ByteArray} {f n : Nat} (h : ¬ (n < s.size ∧ 48 ≤ bt s n ∧ bt s n ≤ 57)) : dRun s f n = n := by
  cases f with
  | zero => rfl
  | succ f => rw [dRun, if_neg h]
theorem psz_le (s : ByteArray) : pszM s ≤ s.size := by
  unfold pszM
  split
  · exact (dRun_le s _ 0 (Nat.zero_le _)).2
  · exact bare_le s
theorem ret_int' {a b : Int} (h : a = b) : Ending.returned (.int .i64 a) = .returned (.int .i64 b) := by rw [h]

set_option maxHeartbeats 1000000 in
theorem nameSize_any (s : ByteArray) (w : World) (hs : s.size ≤ 100000) : Calls Try.prog 53 #[.string s] w fun e w' => e = .returned (.int .i64 (nszM s)) ∧ w = w' := by
  have h1s : ∀ n, n < s.size → (s.extract n (n + 1)).size = 1 := fun n hn => by rw [ByteArray.size_extract]; omega
  go_enter Try.func53, Try.ntmps53
  go_wp2
  go_loop [3] (fun v => ∃ n f : Nat, n ≤ s.size ∧ s.size ≤ n + f ∧ v = .int .i64 n ∧ Hid (nRun s s.size 0 = nRun s f n)) (fun v => s.size - (intOf v).toNat)
  case atStart => exact ⟨0, s.size, Nat.zero_le _, by omega, by go_num, Lib.hid rfl⟩
  case round =>
    obtain ⟨n, f, hn, hf, rfl, hm⟩ := hrel
    have hle : (s.extract 0 n).size ≤ maxLen := by rw [ByteArray.size_extract]; unfold maxLen; omega
    by_cases hlt : n < s.size
    · obtain ⟨f, rfl⟩ : ∃ g, f = g + 1 := ⟨f - 1, by omega⟩
      have hz : ((⟨#[95]⟩ : ByteArray) ++ s.extract n (n + 1)).size ≤ maxLen := by
        rw [ByteArray.size_append, h1s n hlt]; decide
      have hz1 : (s.extract n (n + 1)).size = 1 := h1s n hlt
      have hH := Lib.hid h1s
      clear h1s
      cases hN : isName (⟨#[95]⟩ ++ s.extract n (n + 1))
      · cases hM : isName (s.extract 0 n)
        all_goals
          have hr := Lib.hid (show nszM s = if isName (s.extract 0 n) then n else 0 by unfold nszM; rw [hm.out, nRun_no hN])
          rw [hM] at hr
          have hNH := Lib.hid hN
          clear hN
          go_wp2_with (go_at_call 14; refine (name_any _ _ (by first | exact hz | exact hle)).mono ?_; rintro e w' ⟨rfl, rfl⟩; first | rw [hNH.out] | rw [hM])
          go_ret
          rw [hr.out]
          exact ⟨rfl, rfl⟩
      · have hr := Lib.hid (hm.out.trans (nRun_on hlt hN))
        have hNH := Lib.hid hN
        clear hN
        go_wp2_with (go_at_call 14; refine (name_any _ _ hz).mono ?_; rintro e w' ⟨rfl, rfl⟩; rw [hNH.out])
        go_round
        case rel => exact ⟨n + 1, f, by omega, by omega, by go_num, hr⟩
        case measure => simp [intOf]; omega
    · obtain rfl : n = s.size := by omega
      clear h1s
      have hx : s.extract 0 s.size = s := by apply toList_inj; rw [Lib.toList_data, Lib.toList_data, Lib.extract_data, List.drop_zero, Nat.sub_zero, List.take_of_length_le (by rw [← Lib.size_eq]; exact Nat.le_refl _)]
      have hs2 : s.size ≤ maxLen := by unfold maxLen; omega
      cases hM : isName s
      all_goals
        have hr := Lib.hid (show nszM s = if isName s then s.size else 0 by unfold nszM; rw [hm.out, nRun_end hlt, hx])
        rw [hM] at hr
        have hM2 := Lib.hid (show isName (s.extract 0 s.size) = _ from (congrArg isName hx).trans hM)
        have hMH := Lib.hid hM
        clear hx hM
        go_wp2_with (go_at_call 14; refine (name_any _ _ (by first | exact hs2 | exact hle)).mono ?_; rintro e w' ⟨rfl, rfl⟩; first | rw [hMH.out] | rw [hM2.out])
        go_ret
        rw [hr.out]
        exact ⟨rfl, rfl⟩

set_option maxHeartbeats 1000000 in
theorem bareSize_any (s : ByteArray) (w : World) (hs : s.size ≤ 100000) : Calls Try.prog 46 #[.string s] w fun e w' => e = .returned (.int .i64 (bareM s)) ∧ w = w' := by
  have hb := get_bt s
  obtain ⟨n, hn⟩ : ∃ n, nszM s = n := ⟨_, rfl⟩
  have hc := Lib.hid (fun w => nameSize_any s w hs)
  rw [hn] at hc
  by_cases h0 : 0 < n
  · have hr : Hid (bareM s = n) := Lib.hid (by unfold bareM; rw [hn, if_pos h0])
    clear hn
    go_enter Try.func46, Try.ntmps46
    go_wp2_with (go_at_call 53; refine (hc.out _).mono ?_; rintro e w' ⟨rfl, rfl⟩)
    go_ret
    rw [hr.out]
    exact ⟨rfl, rfl⟩
  · by_cases hz : s.size = 0
    · have hr : Hid (bareM s = 0) := Lib.hid (by unfold bareM; rw [hn, if_neg h0, if_neg (by omega)])
      have e0 := size0 hz
      have hnH := Lib.hid hn
      obtain rfl : n = 0 := by omega
      clear hn h0
      subst e0
      go_enter Try.func46, Try.ntmps46
      go_wp2_with (go_at_call 53; refine (hc.out _).mono ?_; rintro e w' ⟨rfl, rfl⟩)
      go_ret
      rw [hr.out]
      exact ⟨rfl, rfl⟩
    · obtain rfl : n = 0 := by omega
      have hpos : 0 < s.size := by omega
      have hne : (!s.toList.isEmpty) = true := str_ne hz
      obtain ⟨i, hi⟩ : ∃ i, Lib.indexByte [48, 49, 50, 51, 52, 53, 54, 55, 56, 57, 64, 42, 35, 63, 36, 33] (Int.toNat (bt s 0)).toUInt8 = i := ⟨_, rfl⟩
      have hq : Hid (Lib.indexByte (⟨#[48, 49, 50, 51, 52, 53, 54, 55, 56, 57, 64, 42, 35, 63, 36, 33]⟩ : ByteArray).data.toList (Int.toNat (bt s 0)).toUInt8 = i) := Lib.hid hi
      by_cases h2 : 0 ≤ i
      · have hr : Hid (bareM s = 1) := Lib.hid (by unfold bareM; rw [hn, if_neg h0, hi, if_pos ⟨hpos, h2⟩])
        clear hn h0 hi hz
        go_enter Try.func46, Try.ntmps46
        go_wp2_with (first
          | (go_at_call 53; refine (hc.out _).mono ?_; rintro e w' ⟨rfl, rfl⟩)
          | (go_at_call 54; refine (Try.strings_IndexByte _ _ _).mono ?_; rintro e w' ⟨rfl, rfl⟩; rw [hq.out]))
        go_ret
        rw [hr.out]
        exact ⟨rfl, rfl⟩
      · have hr : Hid (bareM s = 0) := Lib.hid (by unfold bareM; rw [hn, if_neg h0, hi, if_neg (fun h => h2 h.2)])
        clear hn h0 hi hz
        go_enter Try.func46, Try.ntmps46
        go_wp2_with (first
          | (go_at_call 53; refine (hc.out _).mono ?_; rintro e w' ⟨rfl, rfl⟩)
          | (go_at_call 54; refine (Try.strings_IndexByte _ _ _).mono ?_; rintro e w' ⟨rfl, rfl⟩; rw [hq.out]))
        go_ret
        rw [hr.out]
        exact ⟨rfl, rfl⟩

set_option maxHeartbeats 1000000 in
theorem parameterSize_any (s : ByteArray) (w : World) (hs : s.size ≤ 100000) : Calls Try.prog 57 #[.string s] w fun e w' => e = .returned (.int .i64 (pszM s)) ∧ w = w' := by
  have hb := get_bt s
  have hc := Lib.hid (fun w => bareSize_any s w hs)
  go_enter Try.func57, Try.ntmps57
  go_wp2
  go_loop [3] (fun v => ∃ n f : Nat, n ≤ s.size ∧ s.size ≤ n + f ∧ v = .int .i64 n ∧ Hid (dRun s s.size 0 = dRun s f n)) (fun v => s.size - (intOf v).toNat)
  case atStart => exact ⟨0, s.size, Nat.zero_le _, by omega, by go_num, Lib.hid rfl⟩
  case round =>
    obtain ⟨n, f, hn, hf, rfl, hm⟩ := hrel
    by_cases hgo : n < s.size ∧ 48 ≤ bt s n ∧ bt s n ≤ 57
    · obtain ⟨f, rfl⟩ : ∃ g, f = g + 1 := ⟨f - 1, by omega⟩
      obtain ⟨hlt, h1, h2⟩ := hgo
      have hr := Lib.hid (hm.out.trans (dRun_on hlt h1 h2))
      go_wp2
      go_round
      case rel => exact ⟨n + 1, f, by omega, by omega, by go_num, hr⟩
      case measure => simp [intOf]; omega
    · have hd := hm.out.trans (dRun_no hgo)
      have hr : Hid (pszM s = if 0 < n then n else bareM s) := Lib.hid (by unfold pszM; rw [hd])
      clear hd
      by_cases h0 : 0 < n
      · rw [if_pos h0] at hr
        by_cases hlt : n < s.size
        · by_cases h1 : 48 ≤ bt s n
          · have h2 : ¬ bt s n ≤ 57 := fun h => hgo ⟨hlt, h1, h⟩
            clear hgo
            go_wp2
            go_ret
            rw [hr.out]
            exact ⟨rfl, rfl⟩
          · clear hgo
            go_wp2
            go_ret
            rw [hr.out]
            exact ⟨rfl, rfl⟩
        · obtain rfl : n = s.size := by omega
          clear hgo
          go_wp2
          go_ret
          rw [hr.out]
          exact ⟨rfl, rfl⟩
      · rw [if_neg h0] at hr
        obtain rfl : n = 0 := by omega
        clear h0
        by_cases hlt : 0 < s.size
        · by_cases h1 : 48 ≤ bt s 0
          · have h2 : ¬ bt s 0 ≤ 57 := fun h => hgo ⟨hlt, h1, h⟩
            clear hgo
            go_wp2_with (go_at_call 46; refine (hc.out _).mono ?_; rintro e w' ⟨rfl, rfl⟩)
            go_ret
            rw [hr.out]
            exact ⟨rfl, rfl⟩
          · clear hgo
            go_wp2_with (go_at_call 46; refine (hc.out _).mono ?_; rintro e w' ⟨rfl, rfl⟩)
            go_ret
            rw [hr.out]
            exact ⟨rfl, rfl⟩
        · clear hgo
          go_wp2_with (go_at_call 46; refine (hc.out _).mono ?_; rintro e w' ⟨rfl, rfl⟩)
          go_ret
          rw [hr.out]
          exact ⟨rfl, rfl⟩
end Go.Proofs.Ytgpkhpheomaiaaa
