/- The contracts of the document's Name and Quote. No condition but the text's length. -/
import Derived.Test.YtgadnlnclpoeaaaDoorOctD
namespace Go.Proofs.YtgadnlnclpoeaaaDoor
open Go.RowKit Go.PlainAid

def letR (c : Int) : Bool := letB c || c == 95
theorem letR_of {c : Int} {p : Bool} (h : ((65 ≤ c ∧ c ≤ 90) ∨ (97 ≤ c ∧ c ≤ 122) ∨ c = 95) ↔ p = true) : letR c = p := by
  unfold letR letB
  rw [Bool.eq_iff_iff, ← h]
  simp
  omega

set_option maxHeartbeats 400000 in
theorem letter_any (c : Int) (w : World) : Calls Tryd.prog 30 #[.int .u8 c] w fun e w' => e = .returned (.bool (letR c)) ∧ w = w' := by
  by_cases h1 : 65 ≤ c <;> by_cases h2 : c ≤ 90 <;> by_cases h3 : 97 ≤ c <;> by_cases h4 : c ≤ 122
  all_goals
    go_enter Tryd.func30, Tryd.ntmps30
    go_wp2
    go_ret
    exact ⟨ret_bool (letR_of (by simp; omega)).symm, rfl⟩

set_option maxHeartbeats 400000 in
theorem digit_any (c : Int) (w : World) : Calls Tryd.prog 31 #[.int .u8 c] w fun e w' => e = .returned (.bool (digB c)) ∧ w = w' := by
  by_cases h1 : 48 ≤ c <;> by_cases h2 : c ≤ 57
  all_goals
    go_enter Tryd.func31, Tryd.ntmps31
    go_wp2
    go_ret
    exact ⟨ret_bool (digB_of (by simp; omega)).symm, rfl⟩

set_option maxHeartbeats 1000000 in
theorem refName_any (s : ByteArray) (w : World) (hs : s.size ≤ maxLen) : Calls Tryd.prog 20 #[.string s] w fun e w' => e = .returned (.bool (isName s)) ∧ w = w' := by
  unfold maxLen at hs
  have hb := get_bt s
  go_enter Tryd.func20, Tryd.ntmps20
  go_wp2
  go_loop [3] (fun i => ∃ k : Nat, k ≤ s.size ∧ i = .int .i64 k ∧ Hid (∀ m, m < k → nmOk s m = true)) (fun i => s.size - (intOf i).toNat)
  case atStart => exact ⟨0, Nat.zero_le _, rfl, Lib.hid (fun m h => absurd h (by omega))⟩
  case round =>
    obtain ⟨k, hk, rfl, hm⟩ := hrel
    by_cases hlt : k < s.size
    · cases hL : letR (bt s k) <;> cases hK : ((k : Int) == 0) <;> cases hD : digB (bt s k)
      all_goals
        have hn : Hid (nmOk s k = (letR (bt s k) || (!((k : Int) == 0) && digB (bt s k)))) := by
          unfold nmOk letR
          have : (k != 0) = !((k : Int) == 0) := by
            rw [bne, Bool.not_inj_iff, Bool.eq_iff_iff]; simp
          rw [this]
          exact rfl
        rw [hL, hK, hD] at hn
        go_wp2_with (first
          | (go_at_call 30; refine (letter_any _ _).mono ?_; rintro e w' ⟨rfl, rfl⟩)
          | (go_at_call 31; refine (digit_any _ _).mono ?_; rintro e w' ⟨rfl, rfl⟩))
        first
        | (go_ret
           exact ⟨ret_bool (isName_bad hlt hn.out).symm, rfl⟩)
        | (go_round
           case rel => exact ⟨k + 1, by omega, by go_num, Lib.hid (fun m h => by
             by_cases e : m = k
             · subst e; exact hn.out
             · exact hm.out m (by omega))⟩
           case measure => simp [intOf]; omega)
    · obtain rfl : k = s.size := by omega
      by_cases h0 : s.size = 0
      · have e0 := size0 h0
        have hr := Lib.hid (isName_empty h0)
        subst e0
        go_wp2
        go_ret
        exact ⟨ret_bool hr.out.symm, rfl⟩
      · have hr := Lib.hid (isName_yes h0 hm.out)
        have hne : (!s.toList.isEmpty) = true := str_ne h0
        clear h0
        go_wp2
        go_ret
        exact ⟨ret_bool hr.out.symm, rfl⟩

def P9 : ByteArray := ⟨#[45, 46, 47, 58, 61, 43, 44, 64, 37]⟩
def okTo (c : Int) : Nat → Bool
  | 0 => letR c || digB c
  | j + 1 => okTo c j || (c == bt P9 j)
theorem okTo_succ (c : Int) (j : Nat) : okTo c (j + 1) = (okTo c j || (c == bt P9 j)) := by rw [okTo]
theorem okTo_all : ∀ n : Fin 256, okTo (n.1 : Int) 9 = (letB (n.1 : Int) || digB (n.1 : Int) || !decide (idx (n.1 : Int) < 0)) := by decide +kernel
theorem okTo_safe (s : ByteArray) (k : Nat) : okTo (bt s k) 9 = safeOk s k := by
  have h0 := bt_nonneg s k
  have h1 := bt_le s k
  have := okTo_all ⟨(bt s k).toNat, by omega⟩
  have e : (((⟨(bt s k).toNat, by omega⟩ : Fin 256).1 : Nat) : Int) = bt s k := by show ((bt s k).toNat : Int) = _; omega
  rw [e] at this
  exact this

/-- Are the first k bytes such as need no quotes? -/
def plainTo (s : ByteArray) (k : Nat) : Bool := decide (s.size ≠ 0) && decide (∀ m, m < k → safeOk s m = true)
theorem plainTo_succ (s : ByteArray) (k : Nat) : plainTo s (k + 1) = (plainTo s k && okTo (bt s k) 9) := by
  unfold plainTo
  rw [okTo_safe, Bool.eq_iff_iff]
  simp
  constructor
  · rintro ⟨h0, h⟩
    exact ⟨⟨h0, fun m hm => h m (by omega)⟩, h k (by omega)⟩
  · rintro ⟨⟨h0, h⟩, hk⟩
    refine ⟨h0, fun m hm => ?_⟩
    by_cases e : m = k
    · subst e; exact hk
    · exact h m (by omega)
theorem plainTo_end (s : ByteArray) : plainTo s s.size = isSafe s := rfl

theorem qm_append (l m : List UInt8) : qm (l ++ m) = qm l ++ qm m := by
  induction l with
  | nil => rfl
  | cons c r ih => simp only [List.cons_append, qm, ih, List.append_assoc]
/-- What the first k bytes are within quotes. -/
def qmTo (s : ByteArray) (k : Nat) : ByteArray := ⟨(qm (s.data.toList.take k)).toArray⟩
theorem qmTo_size (s : ByteArray) (k : Nat) : (qmTo s k).size ≤ 4 * k := by
  have : (qmTo s k).size = (qm (s.data.toList.take k)).length := by
    show (qm (s.data.toList.take k)).toArray.size = _
    simp
  rw [this]
  have h := qm_len (s.data.toList.take k)
  have h2 : (s.data.toList.take k).length ≤ k := List.length_take_le _ _
  omega
theorem take_snoc {l : List UInt8} {k : Nat} (h : k < l.length) : l.take (k + 1) = l.take k ++ [l[k]] := List.take_succ_eq_append_getElem h
theorem bt_get {s : ByteArray} {k : Nat} (h : k < s.size) : ∃ h' : k < s.data.toList.length, bt s k = ((s.data.toList[k]'h').toNat : Int) := by
  have h' : k < s.data.toList.length := by rw [← Lib.size_eq]; exact h
  exact ⟨h', by rw [bt_data, List.getElem?_eq_getElem h']⟩
theorem ba_ext' {a b : ByteArray} (h : a.data.toList = b.data.toList) : a = b := by
  obtain ⟨⟨x⟩⟩ := a
  obtain ⟨⟨y⟩⟩ := b
  have : x = y := h
  rw [this]
theorem qmTo_39 {s : ByteArray} {k : Nat} (h : k < s.size) (h9 : bt s k = 39) : qmTo s k ++ ⟨#[39, 92, 39, 39]⟩ = qmTo s (k + 1) := by
  obtain ⟨h', e⟩ := bt_get h
  apply ba_ext'
  rw [app_data]
  show qm (s.data.toList.take k) ++ [39, 92, 39, 39] = qm (s.data.toList.take (k + 1))
  have hc : s.data.toList[k] = 39 := UInt8.toNat_inj.1 (by
    show s.data.toList[k].toNat = 39
    omega)
  rw [take_snoc h', qm_append, hc]; rfl
theorem qmTo_ne {s : ByteArray} {k : Nat} (h : k < s.size) (h9 : ¬ bt s k = 39) : qmTo s k ++ s.extract k (k + 1) = qmTo s (k + 1) := by
  obtain ⟨h', e⟩ := bt_get h
  apply ba_ext'
  rw [app_data, Lib.extract_data]
  show qm (s.data.toList.take k) ++ _ = qm (s.data.toList.take (k + 1))
  have hc : ¬ s.data.toList[k] = 39 := fun g => h9 (by rw [e, g]; rfl)
  rw [take_snoc h', qm_append]
  congr 1
  rw [show k + 1 - k = 1 by omega, qm, if_neg hc, qm, List.append_nil, List.drop_eq_getElem_cons h']
  rfl
theorem qmTo_end (s : ByteArray) : qmTo s s.size = qmS s := by
  unfold qmTo qmS
  rw [List.take_of_length_le (by rw [← Lib.size_eq]; exact Nat.le_refl _)]

theorem plain_start (s : ByteArray) : (!s.toList.isEmpty) = plainTo s 0 := by
  unfold plainTo
  by_cases h : s.size = 0
  · rw [size0 h, Lib.toList_data]; rfl
  · rw [str_ne h, decide_eq_true h, decide_eq_true (by intro m hm; omega)]; rfl

set_option maxRecDepth 100000 in
set_option maxHeartbeats 2000000 in
theorem refQuote_any (s R : ByteArray) (hR : Hid (R = if isSafe s = true then s else quoted s)) (w : World) (hs : s.size ≤ 65536) : Calls Tryd.prog 22 #[.string s] w fun e w' => e = .returned (.string R) ∧ w = w' := by
  have hb := get_bt s
  have hp9 := get_bt P9
  have hs9 : P9.size = 9 := rfl
  have hps := Lib.hid (plain_start s)
  unfold P9 at hp9 hs9
  go_enter Tryd.func22, Tryd.ntmps22
  go_wp2_with fail
  go_loop [3, 4, 5] (fun s3 s4 s5 => ∃ k : Nat, k ≤ s.size ∧ s3 = .bool (plainTo s k) ∧ s4 = .string (qmTo s k) ∧ s5 = .int .i64 k) (fun _ _ s5 => s.size - (intOf s5).toNat)
  case atStart => exact ⟨0, Nat.zero_le _, congrArg Value.bool hps.out, rfl, rfl⟩
  case round =>
    obtain ⟨k, hk, rfl, rfl, rfl⟩ := hrel
    have hq := qmTo_size s k
    by_cases hlt : k < s.size
    · go_upto_region 7 with fail
      go_cut [7] (fun s7 wx => s7 = .bool (okTo (bt s k) 0) ∧ w = wx)
      case first =>
        cases hL : letR (bt s k) <;> cases hD : digB (bt s k)
        all_goals
          have hn : Hid (okTo (bt s k) 0 = (letR (bt s k) || digB (bt s k))) := Lib.hid rfl
          rw [hL, hD] at hn
          go_wp2_with (first
            | (go_at_call 30; refine (letter_any _ _).mono ?_; rintro e w' ⟨rfl, rfl⟩)
            | (go_at_call 31; refine (digit_any _ _).mono ?_; rintro e w' ⟨rfl, rfl⟩))
          go_meet
          exact ⟨congrArg Value.bool hn.out.symm, rfl⟩
      case rest =>
        obtain ⟨rfl, rfl⟩ := hcut
        go_wp2_with fail
        go_loop [7, 8] (fun s7 s8 => ∃ j : Nat, j ≤ 9 ∧ s7 = .bool (okTo (bt s k) j) ∧ s8 = .int .i64 j) (fun _ s8 => 9 - (intOf s8).toNat)
        case atStart => exact ⟨0, Nat.zero_le _, rfl, rfl⟩
        case round =>
          obtain ⟨j, hj, rfl, rfl⟩ := hrel
          by_cases hj9 : j < 9
          · have hj9' : (j : Int) < 9 := by omega
            have hn := Lib.hid (okTo_succ (bt s k) j)
            unfold P9 at hn
            cases hO : okTo (bt s k) j <;> cases hE : (bt s k == bt ⟨#[45, 46, 47, 58, 61, 43, 44, 64, 37]⟩ j)
            all_goals
              rw [hO, hE] at hn
              go_wp2
              go_round
              case rel => exact ⟨j + 1, by omega, congrArg Value.bool hn.out.symm, by go_num⟩
              case measure => simp [intOf]; omega
          · obtain rfl : j = 9 := by omega
            have hn := Lib.hid (plainTo_succ s k)
            have z1 : ¬ 9223372036854775807 < (qmTo s k).size + 4 := by omega
            have z2 : ¬ 9223372036854775807 < (qmTo s k).size + (k + 1 - k) := by omega
            by_cases h9 : bt s k = 39
            · have hm := Lib.hid (qmTo_39 hlt h9)
              clear hq
              cases hP : plainTo s k <;> cases hO : okTo (bt s k) 9
              all_goals
                rw [hP, hO] at hn
                go_wp2
                go_round
                case rel => exact ⟨k + 1, by omega, congrArg Value.bool hn.out.symm, congrArg Value.string hm.out, by go_num⟩
                case measure => simp [intOf]; omega
            · have hm := Lib.hid (qmTo_ne hlt h9)
              clear hq
              cases hP : plainTo s k <;> cases hO : okTo (bt s k) 9
              all_goals
                rw [hP, hO] at hn
                go_wp2
                go_round
                case rel => exact ⟨k + 1, by omega, congrArg Value.bool hn.out.symm, congrArg Value.string hm.out, by go_num⟩
                case measure => simp [intOf]; omega
    · obtain rfl : k = s.size := by omega
      have hn := Lib.hid (plainTo_end s)
      have hqe := Lib.hid (qmTo_end s)
      have z1 : ¬ 9223372036854775807 < 1 + (qmTo s s.size).size := by omega
      have z2 : ¬ 9223372036854775807 < 1 + (qmTo s s.size).size + 1 := by omega
      clear hq
      cases hP : plainTo s s.size
      · rw [hP] at hn
        go_wp2
        go_ret
        have hr : (⟨#[39]⟩ ++ qmTo s s.size ++ ⟨#[39]⟩ : ByteArray) = R := by
          rw [hR.out, if_neg (by rw [← hn.out]; decide), quoted, ← hqe.out]
        exact ⟨congrArg (fun x => Ending.returned (.string x)) hr, rfl⟩
      · rw [hP] at hn
        go_wp2
        go_ret
        have hr : s = R := by
          rw [hR.out, if_pos hn.out.symm]
        exact ⟨congrArg (fun x => Ending.returned (.string x)) hr, rfl⟩
end Go.Proofs.YtgadnlnclpoeaaaDoor
