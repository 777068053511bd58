/- The contract of the document's Number: the walk. No condition but the text's length. -/
import Derived.Test.YtgadnlnclpoeaaaDoorOctN
import Derived.Test.YtgadnlnclpoeaaaDoorOctJ
import Derived.IntWalk
namespace Go.Proofs.YtgadnlnclpoeaaaDoor
open Go.RowKit Go.PlainAid

theorem ba_ext3 {a b : ByteArray} (h : a.data.toList = b.data.toList) : a = b := by
  obtain ⟨⟨x⟩⟩ := a
  obtain ⟨⟨y⟩⟩ := b
  have : x = y := h
  rw [this]
def restS (s : ByteArray) : ByteArray := ⟨(restOf s.data.toList).toArray⟩
theorem restS_data (s : ByteArray) : (restS s).data.toList = restOf s.data.toList := by
  show (restOf s.data.toList).toArray.toList = _
  simp
theorem rest_le (l : List UInt8) : (restOf l).length ≤ l.length := by
  cases l with
  | nil => exact Nat.le_refl _
  | cons c r => rw [restOf]; split <;> simp
theorem restS_size (s : ByteArray) : (restS s).size ≤ s.size := by
  rw [Lib.size_eq, Lib.size_eq, restS_data]; exact rest_le _
theorem bt_cons {s : ByteArray} {c : UInt8} {r : List UInt8} (h : s.data.toList = c :: r) : bt s 0 = (c.toNat : Int) := by
  rw [bt_data, h]; rfl

theorem res_nil (mi : Bool) : resV mi [] = 0 ∧ resOk mi [] = false := ⟨by unfold resV; exact if_pos rfl, by unfold resOk; exact if_pos rfl⟩
theorem res_none {mi : Bool} {l : List UInt8} (h : rdMag 0 l = none) : resV mi l = 0 ∧ resOk mi l = false := by
  unfold resV resOk
  rw [h]
  exact ⟨by split <;> rfl, by split <;> rfl⟩
theorem res_minus {l : List UInt8} (h0 : l ≠ []) {v : Nat} (h : rdMag 0 l = some v) : resV true l = -(v : Int) ∧ resOk true l = true := by
  unfold resV resOk
  rw [h, if_neg h0, if_neg h0]
  exact ⟨rfl, rfl⟩
theorem res_plus {l : List UInt8} (h0 : l ≠ []) {v : Nat} (h : rdMag 0 l = some v) (hv : v ≠ 9223372036854775808) : resV false l = (v : Int) ∧ resOk false l = true := by
  unfold resV resOk
  rw [h, if_neg h0, if_neg h0]
  exact ⟨(if_neg (by decide)).trans (if_neg hv), (if_neg (by decide)).trans (decide_eq_true hv)⟩
theorem res_edge {l : List UInt8} {v : Nat} (h : rdMag 0 l = some v) (hv : v = 9223372036854775808) : resV false l = 0 ∧ resOk false l = false := by
  unfold resV resOk
  rw [h]
  refine ⟨?_, ?_⟩
  · split
    · rfl
    · exact (if_neg (by decide)).trans (if_pos hv)
  · split
    · rfl
    · exact (if_neg (by decide)).trans (decide_eq_false (fun g => g hv))
theorem w64_in {n : Int} (h : -9223372036854775808 ≤ n ∧ n ≤ 9223372036854775807) : wrap64 n = n := by
  rw [← IntWalk.i64_left]
  exact IntWalk.i64_in _ h
theorem lim_of {L c : Int} (hL : -9223372036854775808 = L) (h1 : 48 ≤ c) (h2 : c ≤ 57) : wrap64 ((wrap64 (L + (c - 48))).tdiv 10) = -((9223372036854775808 - (c - 48)) / 10) := by
  rw [w64_in (n := L + (c - 48)) (by omega)]
  have e : L + (c - 48) = -(9223372036854775808 - (c - 48)) := by omega
  rw [e, Int.neg_tdiv, Int.tdiv_eq_ediv_of_nonneg (by omega)]
  exact w64_in (by omega)
theorem acc_of {V D : Nat} {c : Int} (hc : c = 48 + D) (h : V * 10 + D ≤ 9223372036854775808) : wrap64 (wrap64 (-(V : Int) * 10) - (c - 48)) = -((V * 10 + D : Nat) : Int) := by
  rw [w64_in (n := -(V : Int) * 10) (by omega), w64_in (by omega)]
  omega
theorem ret_two {a b : Int} {p q : Bool} (h : a = b ∧ p = q) : Ending.returned (.tuple #[.int .i64 a, .bool p]) = .returned (.tuple #[.int .i64 b, .bool q]) := by rw [h.1, h.2]

/-- Does a sign stand ahead? -/
def signB : List UInt8 → Bool
  | [] => false
  | c :: _ => c == 43 || c == 45
theorem sign_c (c : UInt8) (r : List UInt8) : signB (c :: r) = (c == 43 || c == 45) := by rw [signB]
theorem u8_beq (c : UInt8) (k : UInt8) : (c == k) = ((c.toNat : Int) == (k.toNat : Int)) := by
  rw [Bool.eq_iff_iff, beq_iff_eq, beq_iff_eq, ← UInt8.toNat_inj]; omega
/-- The three ways of a text: empty, a sign ahead, none. -/
theorem ways3 (s : ByteArray) : (s = ⟨#[]⟩ ∧ signB s.data.toList = false ∧ minusOf s.data.toList = false ∧ restS s = s) ∨
    (s.size ≠ 0 ∧ ((bt s 0 == 43) || (bt s 0 == 45)) = true ∧ signB s.data.toList = true ∧ minusOf s.data.toList = (bt s 0 == 45) ∧ restS s = s.extract 1 s.size) ∨
    (s.size ≠ 0 ∧ (bt s 0 == 43) = false ∧ (bt s 0 == 45) = false ∧ signB s.data.toList = false ∧ minusOf s.data.toList = false ∧ restS s = s) := by
  cases h : s.data.toList with
  | nil =>
    have h0 : s.size = 0 := by rw [Lib.size_eq, h]; rfl
    refine .inl ⟨size0 h0, by rw [signB], by rw [minusOf], ?_⟩
    apply ba_ext3
    rw [restS_data, h]; rw [restOf]
  | cons c r =>
    have h0 : s.size ≠ 0 := by rw [Lib.size_eq, h]; simp
    have e0 := bt_cons h
    have e43 : (bt s 0 == 43) = (c == 43) := by rw [e0, u8_beq]; rfl
    have e45 : (bt s 0 == 45) = (c == 45) := by rw [e0, u8_beq]; rfl
    rw [e43, e45, sign_c, minus_c]
    by_cases hs : (c == 43 || c == 45) = true
    · refine .inr (.inl ⟨h0, hs, hs, rfl, ?_⟩)
      apply ba_ext3
      rw [restS_data, Lib.extract_data, h, Lib.size_eq, h]
      have : restOf (c :: r) = r := by
        rw [restOf]
        exact if_pos (by simpa using hs)
      rw [this]; simp
    · have h1 : (c == 43) = false := by cases e : (c == 43) <;> simp_all
      have h2 : (c == 45) = false := by cases e : (c == 45) <;> simp_all
      refine .inr (.inr ⟨h0, h1, h2, by rw [h1, h2]; rfl, h2, ?_⟩)
      apply ba_ext3
      rw [restS_data, h, rest_ne (by simpa using h1) (by simpa using h2)]

set_option maxRecDepth 100000 in
set_option maxHeartbeats 2000000 in
theorem refNumber_any (s : ByteArray) (w : World) (hs : s.size ≤ 281474976710656) :
    Calls Tryd.prog 13 #[.string s] w fun e w' => e = .returned (.tuple #[.int .i64 (numV s.data.toList), .bool (numOk s.data.toList)]) ∧ w = w' := by
  obtain ⟨hV, hO⟩ := num_res s.data.toList
  rw [hV, hO]
  clear hV hO
  obtain ⟨Lm, hLm⟩ : ∃ L : Int, (-9223372036854775808 : Int) = L := ⟨_, rfl⟩
  have hLH := Lib.hid hLm
  clear hLm
  have hb := get_bt s
  have hTs := restS_size s
  have hTd := Lib.hid (restS_data s)
  have hw3 := Lib.hid (ways3 s)
  obtain ⟨mi, hmi⟩ : ∃ b, minusOf s.data.toList = b := ⟨_, rfl⟩
  rw [hmi] at hw3 ⊢
  obtain ⟨sg, hsg⟩ : ∃ b, signB s.data.toList = b := ⟨_, rfl⟩
  rw [hsg] at hw3
  clear hmi hsg
  rw [← restS_data s]
  obtain ⟨T, hT⟩ : ∃ T, restS s = T := ⟨_, rfl⟩
  rw [hT] at hTs hTd hw3 ⊢
  clear hT
  go_enter Tryd.func13, Tryd.ntmps13
  go_upto_region 3 with fail
  go_cut [22] (fun s22 wx => s22 = .bool sg ∧ w = wx)
  case first =>
    rcases hw3.out with ⟨e0, e1, e2, e3⟩ | ⟨h0, e1, e2, e3, e4⟩ | ⟨h0, e1, e2, e3, e4, e5⟩
    · subst e0 e1
      clear e2 e3
      go_wp2
      go_meet
      exact ⟨rfl, rfl⟩
    · subst e2
      have hne := str_ne h0
      clear e3 e4
      have h0' : 0 < s.size := by omega
      cases h43 : (bt s 0 == 43) <;> cases h45 : (bt s 0 == 45)
      · rw [h43, h45] at e1; cases e1
      all_goals
        clear e1
        go_wp2
        go_meet
        exact ⟨rfl, rfl⟩
    · subst e3
      have hne := str_ne h0
      have h0' : 0 < s.size := by omega
      clear e4 e5
      go_wp2
      go_meet
      exact ⟨rfl, rfl⟩
  case rest =>
    obtain ⟨rfl, rfl⟩ := hcut
    go_upto_if 22 with fail
    go_cut [4, 5] (fun s4 s5 wx => s4 = .bool mi ∧ s5 = .string T ∧ w = wx)
    case first =>
      rcases hw3.out with ⟨e0, e1, e2, e3⟩ | ⟨h0, e1, e2, e3, e4⟩ | ⟨h0, e1, e2, e3, e4, e5⟩
      · have e2H := Lib.hid e2
        have e3H := Lib.hid e3
        subst e1
        clear e0 e2 e3
        go_wp2
        go_meet
        exact ⟨congrArg Value.bool e2H.out.symm, congrArg Value.string e3H.out.symm, rfl⟩
      · have e2H := Lib.hid e3
        have e3H := Lib.hid e4
        have h0' : 0 < s.size := by omega
        subst e2
        clear e1 e3 e4
        go_wp2
        go_meet
        exact ⟨congrArg Value.bool e2H.out.symm, congrArg Value.string e3H.out.symm, rfl⟩
      · have e2H := Lib.hid e4
        have e3H := Lib.hid e5
        subst e3
        clear e1 e2 e4 e5
        go_wp2
        go_meet
        exact ⟨congrArg Value.bool e2H.out.symm, congrArg Value.string e3H.out.symm, rfl⟩
    case rest =>
      obtain ⟨rfl, rfl, rfl⟩ := hcut
      have hbT := get_bt T
      clear hb hw3
      by_cases h0 : T.size = 0
      · have e0 := size0 h0
        subst e0
        go_wp2
        go_ret2
        exact ⟨ret_two ⟨(res_nil mi).1.symm, (res_nil mi).2.symm⟩, rfl⟩
      · have hne := str_ne h0
        have hne2 : T.toList.isEmpty = false := by simpa using hne
        have hL0 : Hid (T.data.toList ≠ []) := Lib.hid (fun e => h0 (by rw [Lib.size_eq, e]; rfl))
        clear h0
        go_upto_region 10 with fail
        go_cut [6, 8] (fun s6 s8 wx => s6 = .int .i64 Lm ∧ s8 = .int .i64 0 ∧ w = wx)
        case first =>
          go_wp2
          go_meet
          exact ⟨congrArg (Value.int .i64) hLH.out, rfl, rfl⟩
        case rest =>
          obtain ⟨rfl, rfl, rfl⟩ := hcut
          go_wp2_with fail
          go_loop [7, 8] (fun s7 s8 => ∃ k V : Nat, k ≤ T.size ∧ V ≤ 9223372036854775808 ∧ s7 = .int .i64 (-(V : Int)) ∧ s8 = .int .i64 k ∧ Hid (rdMag 0 T.data.toList = rdMag V (T.data.toList.drop k))) (fun _ s8 => T.size - (intOf s8).toNat)
          case atStart => exact ⟨0, 0, Nat.zero_le _, Nat.zero_le _, rfl, rfl, Lib.hid rfl⟩
          case round =>
            obtain ⟨k, V, hk, hV, rfl, rfl, hrd⟩ := hrel
            by_cases hlt : k < T.size
            · obtain ⟨h', ec⟩ := bt_get hlt
              have hdrop := Lib.hid (List.drop_eq_getElem_cons h')
              have ecH := Lib.hid ec
              clear ec
              by_cases g1 : 48 ≤ bt T k
              · by_cases g2 : bt T k ≤ 57
                · have hlim := Lib.hid (lim_of hLH.out g1 g2)
                  obtain ⟨D, hD⟩ : ∃ D : Nat, bt T k = 48 + (D : Int) := ⟨(bt T k - 48).toNat, by omega⟩
                  have hDH := Lib.hid hD
                  have hdg : Hid (isDigB T.data.toList[k] = true) := Lib.hid ((isDigB_iff _).2 (by have := ecH.out; omega))
                  have hcD : Hid (T.data.toList[k].toNat - 48 = D) := Lib.hid (by have := ecH.out; omega)
                  clear hD
                  go_wp2
                  · have ht : -(V : Int) < wrap64 ((wrap64 (Lm + (bt T k - 48))).tdiv 10) := by assumption
                    have hnone : Hid (rdMag 0 T.data.toList = none) := Lib.hid (by
                      rw [hrd.out, hdrop.out]
                      refine rd_big hdg.out ?_ _
                      rw [hcD.out]
                      rw [hlim.out, hDH.out] at ht
                      omega)
                    go_ret2
                    exact ⟨ret_two ⟨(res_none hnone.out).1.symm, (res_none hnone.out).2.symm⟩, rfl⟩
                  · have ht : wrap64 ((wrap64 (Lm + (bt T k - 48))).tdiv 10) ≤ -(V : Int) := by assumption
                    have hle : V * 10 + D ≤ 9223372036854775808 := by
                      rw [hlim.out, hDH.out] at ht
                      omega
                    go_round
                    case rel =>
                      refine ⟨k + 1, V * 10 + D, by omega, hle, congrArg (Value.int .i64) (acc_of hDH.out hle), by go_num, Lib.hid ?_⟩
                      rw [hrd.out, hdrop.out, rd_step hdg.out (by rw [hcD.out]; omega), hcD.out]
                    case measure => simp [intOf]; omega
                · have hnone : Hid (rdMag 0 T.data.toList = none) := Lib.hid (by
                    rw [hrd.out, hdrop.out]
                    refine rd_bad ?_ _ _
                    cases e : isDigB T.data.toList[k]
                    · rfl
                    · have := (isDigB_iff _).1 e
                      have := ecH.out
                      omega)
                  go_wp2
                  go_ret2
                  exact ⟨ret_two ⟨(res_none hnone.out).1.symm, (res_none hnone.out).2.symm⟩, rfl⟩
              · have hnone : Hid (rdMag 0 T.data.toList = none) := Lib.hid (by
                  rw [hrd.out, hdrop.out]
                  refine rd_bad ?_ _ _
                  cases e : isDigB T.data.toList[k]
                  · rfl
                  · have := (isDigB_iff _).1 e
                    have := ecH.out
                    omega)
                go_wp2
                go_ret2
                exact ⟨ret_two ⟨(res_none hnone.out).1.symm, (res_none hnone.out).2.symm⟩, rfl⟩
            · obtain rfl : k = T.size := by omega
              have hsome : Hid (rdMag 0 T.data.toList = some V) := Lib.hid (by
                rw [hrd.out, List.drop_of_length_le (by rw [← Lib.size_eq]; exact Nat.le_refl _), rd_nil])
              cases mi
              · by_cases hv : V = 9223372036854775808
                · have he : (-(V : Int) == Lm) = true := by
                    have := hLH.out
                    rw [beq_iff_eq]; omega
                  have hvH := Lib.hid hv
                  clear hv hV
                  go_wp2
                  go_ret2
                  exact ⟨ret_two ⟨(res_edge hsome.out hvH.out).1.symm, (res_edge hsome.out hvH.out).2.symm⟩, rfl⟩
                · have he : (-(V : Int) == Lm) = false := by
                    have := hLH.out
                    rw [beq_eq_false_iff_ne]; omega
                  have hvH : Hid (V ≠ 9223372036854775808) := Lib.hid hv
                  have hV' : V ≤ 9223372036854775807 := by omega
                  clear hv hV
                  go_wp2
                  go_ret2
                  exact ⟨ret_two ⟨(res_plus hL0.out hsome.out hvH.out).1.symm, (res_plus hL0.out hsome.out hvH.out).2.symm⟩, rfl⟩
              · go_wp2
                go_ret2
                exact ⟨ret_two ⟨(res_minus hL0.out hsome.out).1.symm, (res_minus hL0.out hsome.out).2.symm⟩, rfl⟩
end Go.Proofs.YtgadnlnclpoeaaaDoor
