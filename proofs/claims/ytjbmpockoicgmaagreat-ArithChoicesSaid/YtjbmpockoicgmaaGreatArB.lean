/- What is a part of a name; digits; blanks; how long a name, an operator is: contracts. No condition but that the text is short. -/
import Derived.Test.YtjbmpockoicgmaaGreatArA
import Derived.Test.YtjbmpockoicgmaaGreatFlA
import Derived.Laws.IdiomStrings
namespace Go.Proofs.YtjbmpockoicgmaaGreat
open Go.RowKit Go.PlainAid
set_option linter.unusedVariables false
set_option linter.unusedSimpArgs false
attribute [local go_sem] Oper.semAt_some

theorem bt_two (u : UInt8) : bt ⟨#[95, u]⟩ 0 = 95 ∧ bt ⟨#[95, u]⟩ 1 = (u.toNat : Int) := by
  constructor
  · unfold bt; exact (dif_pos (show 0 < 2 by omega)).trans rfl
  · unfold bt; exact (dif_pos (show 1 < 2 by omega)).trans rfl
theorem isName_two (u : UInt8) : isName ⟨#[95, u]⟩ = partB (u.toNat : Int) := by
  have h := bt_two u
  have e0 : nmOk ⟨#[95, u]⟩ 0 = true := by unfold nmOk; rw [h.1]; decide
  have e1 : nmOk ⟨#[95, u]⟩ 1 = partB (u.toNat : Int) := by unfold nmOk partB; rw [h.2]; rfl
  cases hp : partB (u.toNat : Int) with
  | false => exact isName_bad (k := 1) (by show 1 < 2; omega) (e1.trans hp)
  | true =>
    refine isName_yes (by show (2 : Nat) ≠ 0; omega) (fun k hk => ?_)
    have hk : k < 2 := hk
    obtain rfl | rfl : k = 0 ∨ k = 1 := by omega
    · exact e0
    · exact e1.trans hp

set_option maxRecDepth 100000 in
set_option maxHeartbeats 1000000 in
theorem isPart_any (c : Int) (w : World) (h0 : 0 ≤ c) (h1 : c ≤ 255) : Calls Tryz.prog 58 #[.int .u8 c] w fun e w' => e = .returned (.bool (partB c)) ∧ Below w.heap.size w w' := by
  obtain ⟨u, hu⟩ : ∃ u : UInt8, (u.toNat : Int) = c := ⟨UInt8.ofNat c.toNat, by rw [UInt8.toNat_ofNat']; omega⟩
  subst hu
  have hn := Lib.hid (isName_two u)
  have hcv : (convert 48 9 (.slice (some ⟨w.heap.size, 0, none⟩) 2 2)).run Tryz.prog (w.alloc (.cells #[.int .u8 95, .int .u8 (u.toNat : Int)] 5)) = .ok (.string ⟨#[95, u]⟩) (w.alloc (.cells #[.int .u8 95, .int .u8 (u.toNat : Int)] 5)) := run_convert_bytes_back (P := Tryz.prog) (w.alloc (.cells #[.int .u8 95, .int .u8 (u.toNat : Int)] 5)) 48 9 5 ⟨w.heap.size, 0, none⟩ 2 [95, u] Tryz.underlying48 (by kernel_rfl) (by kernel_rfl) (fun j hj => by
    have hj : j < 2 := hj
    obtain rfl | rfl : j = 0 ∨ j = 1 := by omega
    · rw [Addr.add_lit]; exact (Blk.new w 5 _).cell 0
    · rw [Addr.add_lit]; exact (Blk.new w 5 _).cell 1)
  have hsz : (⟨#[95, u]⟩ : ByteArray).size ≤ maxLen := by show 2 ≤ maxLen; unfold maxLen; omega
  go_enter Tryz.func58, Tryz.ntmps58
  go_wp2_with (go_at_call 59; refine (name_any _ _ hsz).mono ?_; rintro e w' ⟨rfl, rfl⟩; rw [hn.out])
  go_ret
  exact ⟨rfl, (Below.refl _ _).alloc (Nat.le_refl _) _⟩

theorem digV_of {c : Int} {v : Int} (h : digV c = v) : Ending.returned (.int .u64 v) = .returned (.int .u64 (digV c)) := by rw [h]
set_option maxHeartbeats 2000000 in
theorem digit_any (c : Int) (w : World) (c0 : 0 ≤ c) (c1 : c ≤ 255) : Calls Tryz.prog 57 #[.int .u8 c] w fun e w' => e = .returned (.int .u64 (digV c)) ∧ w = w' := by
  by_cases h1 : 48 ≤ c <;> by_cases h2 : c ≤ 57 <;> by_cases h3 : 97 ≤ c <;> by_cases h4 : c ≤ 102 <;> by_cases h5 : 65 ≤ c <;> by_cases h6 : c ≤ 70
  all_goals first
    | (exfalso; omega)
    | (go_enter Tryz.func57, Tryz.ntmps57
       go_wp2
       go_ret
       exact ⟨ret_int (by unfold digV; (repeat' split) <;> omega), rfl⟩)

theorem blankB_of {c : Int} {v : Bool} (h : blankB c = v) : Ending.returned (.bool v) = .returned (.bool (blankB c)) := by rw [h]
set_option maxHeartbeats 1000000 in
theorem isBlank_any (c : Int) (w : World) : Calls Tryz.prog 24 #[.int .u8 c] w fun e w' => e = .returned (.bool (blankB c)) ∧ w = w' := by
  cases h1 : (c == 9) <;> cases h2 : (c == 10) <;> cases h3 : (c == 32)
  all_goals
    have hd := Lib.hid (show blankB c = ((c == 9) || (c == 10) || (c == 32)) by unfold blankB; rw [Bool.eq_iff_iff]; simp [or_assoc])
    rw [h1, h2, h3] at hd
    go_enter Tryz.func24, Tryz.ntmps24
    go_wp2
    go_ret
    exact ⟨blankB_of hd.out, rfl⟩
theorem partRun_on {s : ByteArray} {f n : Nat} (h : n < s.size) (hn : partB (bt s n) = true) : partRun s (f + 1) n = partRun s f (n + 1) := by rw [partRun, if_pos ⟨h, hn⟩]
theorem partRun_no {s : ByteArray} {f n : Nat} (hn : partB (bt s n) = false) : partRun s f n = n := by
  cases f with
  | zero => rfl
  | succ f => rw [partRun, if_neg (fun h => by rw [hn] at h; cases h.2)]
theorem partRun_end {s : ByteArray} {f n : Nat} (h : ¬ n < s.size) : partRun s f n = n := by
  cases f with
  | zero => rfl
  | succ f => rw [partRun, if_neg (fun h' => h h'.1)]
set_option maxHeartbeats 1000000 in
theorem nameSize_any (s : ByteArray) (w : World) (hs : s.size ≤ 100000) : Calls Tryz.prog 40 #[.string s] w fun e w' => e = .returned (.int .i64 (nszA s)) ∧ Below w.heap.size w w' := by
  have hb := get_bt s
  have hb0 : ∀ n, 0 ≤ bt s n := bt_nonneg s
  have hb1 : ∀ n, bt s n ≤ 255 := bt_le s
  have hb0H := Lib.hid hb0
  have hb1H := Lib.hid hb1
  clear hb0 hb1
  go_enter Tryz.func40, Tryz.ntmps40
  go_wp2
  go_loopw [3] (fun v wr => ∃ n f : Nat, n ≤ s.size ∧ s.size ≤ n + f ∧ v = .int .i64 n ∧ Hid (partRun s s.size 0 = partRun s f n) ∧ Hid (Below w.heap.size w wr)) (fun v _ => s.size - (intOf v).toNat)
  case atStart => exact ⟨0, s.size, Nat.zero_le _, by omega, by go_num, Lib.hid rfl, Lib.hid (Below.refl _ _)⟩
  case round =>
    obtain ⟨n, f, hn, hf, rfl, hm, hB⟩ := hrel
    have hle : (s.extract 0 n).size ≤ maxLen := by rw [ByteArray.size_extract]; unfold maxLen; omega
    by_cases hlt : n < s.size
    · obtain ⟨f, rfl⟩ : ∃ g, f = g + 1 := ⟨f - 1, by omega⟩
      have z0 := hb0H.out n
      have z1 := hb1H.out n
      cases hN : partB (bt s n)
      · cases hM : isName (s.extract 0 n)
        all_goals
          have hr := Lib.hid (show nszA s = if isName (s.extract 0 n) then n else 0 by unfold nszA; rw [hm.out, partRun_no hN])
          rw [hM] at hr
          have hNH := Lib.hid hN
          have hMH := Lib.hid hM
          clear hN hM
          go_wp2_with (first | (go_at_call 58; refine (isPart_any _ _ z0 z1).mono ?_; rintro e w' ⟨rfl, hb1⟩; rw [hNH.out]; have hb1H := Lib.hid hb1; clear hb1) | (go_at_call 59; refine (name_any _ _ hle).mono ?_; rintro e w' ⟨rfl, rfl⟩; rw [hMH.out]))
          go_ret
          rw [hr.out]
          exact ⟨rfl, hB.out.trans (hb1H.out.mono hB.out.size)⟩
      · have hr := Lib.hid (hm.out.trans (partRun_on hlt hN))
        have hNH := Lib.hid hN
        clear hN
        go_wp2_with (go_at_call 58; refine (isPart_any _ _ z0 z1).mono ?_; rintro e w' ⟨rfl, hb1⟩; rw [hNH.out]; have hb1H := Lib.hid hb1; clear hb1)
        go_roundw
        case rel => exact ⟨n + 1, f, by omega, by omega, by go_num, hr, Lib.hid (hB.out.trans (hb1H.out.mono hB.out.size))⟩
        case measure => simp [intOf]; omega
    · obtain rfl : n = s.size := by omega
      have hx : s.extract 0 s.size = s := by apply toList_inj; rw [Lib.toList_data, Lib.toList_data, Lib.extract_data, List.drop_zero, Nat.sub_zero, List.take_of_length_le (by rw [← Lib.size_eq]; exact Nat.le_refl _)]
      have hs2 : s.size ≤ maxLen := by unfold maxLen; omega
      cases hM : isName s
      all_goals
        have hr := Lib.hid (show nszA s = if isName s then s.size else 0 by unfold nszA; rw [hm.out, partRun_end hlt, hx])
        rw [hM] at hr
        have hM2 := Lib.hid (show isName (s.extract 0 s.size) = _ from (congrArg isName hx).trans hM)
        have hMH := Lib.hid hM
        clear hx hM
        go_wp2_with (go_at_call 59; refine (name_any _ _ (by first | exact hs2 | exact hle)).mono ?_; rintro e w' ⟨rfl, rfl⟩; first | rw [hMH.out] | rw [hM2.out])
        go_ret
        rw [hr.out]
        exact ⟨rfl, hB.out⟩
theorem opSz_hit {s : ByteArray} {n : Nat} (h : oneL (s.extract 0 (n + 1)).toList = true) : opSz s (n + 1) = n + 1 := by rw [opSz, if_pos h]
theorem opSz_miss {s : ByteArray} {n : Nat} (h : oneL (s.extract 0 (n + 1)).toList = false) : opSz s (n + 1) = opSz s n := by rw [opSz, if_neg (by rw [h]; exact Bool.false_ne_true)]
set_option maxHeartbeats 1000000 in
theorem operatorSize_any (s : ByteArray) (w : World) (hs : s.size ≤ 100000) : Calls Tryz.prog 41 #[.string s] w fun e w' => e = .returned (.int .i64 (opSize s)) ∧ w = w' := by
  obtain ⟨m, hm⟩ : ∃ m, min 3 s.size = m := ⟨_, rfl⟩
  have hms : m ≤ s.size := by omega
  have hr := Lib.hid (show opSize s = opSz s m by unfold opSize; rw [hm])
  have hmn : min (3 : Int) (s.size : Int) = (m : Int) := by omega
  clear hm
  go_enter Tryz.func41, Tryz.ntmps41
  go_wp2
  clear hmn
  go_loop [3] (fun v => ∃ n : Nat, n ≤ s.size ∧ v = .int .i64 n ∧ Hid (opSize s = opSz s n)) (fun v => (intOf v).toNat)
  case atStart => exact ⟨m, hms, rfl, hr⟩
  case round =>
    obtain ⟨n, hn, rfl, hm⟩ := hrel
    have hc0 := Lib.hid hr
    by_cases hlt : 0 < n
    · obtain ⟨n, rfl⟩ : ∃ k, n = k + 1 := ⟨n - 1, by omega⟩
      cases hO : oneL (s.extract 0 (n + 1)).toList
      · have hr2 := Lib.hid (hm.out.trans (opSz_miss hO))
        have hOH := Lib.hid hO
        clear hO
        go_wp2_with (go_at_call 60; refine (isOne_any _ _).mono ?_; rintro e w' ⟨rfl, rfl⟩; rw [hOH.out])
        go_round
        case rel => exact ⟨n, by omega, by go_num, hr2⟩
        case measure => simp [intOf]
      · have hr2 := Lib.hid (hm.out.trans (opSz_hit hO))
        have hOH := Lib.hid hO
        clear hO
        go_wp2_with (go_at_call 60; refine (isOne_any _ _).mono ?_; rintro e w' ⟨rfl, rfl⟩; rw [hOH.out])
        go_ret
        rw [hr2.out]
        exact ⟨rfl, rfl⟩
    · obtain rfl : n = 0 := by omega
      go_wp2
      go_ret
      rw [hm.out]
      exact ⟨rfl, rfl⟩
end Go.Proofs.YtjbmpockoicgmaaGreat
