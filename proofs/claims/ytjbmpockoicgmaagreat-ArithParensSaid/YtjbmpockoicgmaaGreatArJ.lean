/- The maker of numbers in memory: worth, value, assign. Condition: it lies as stated. -/
import Derived.Test.YtjbmpockoicgmaaGreatArI
import Derived.Maps.OwnSet
import Derived.StringKeys
import Derived.Laws.OwnMore
namespace Go.Proofs.YtjbmpockoicgmaaGreat
open Go.RowKit Go.Shelf Go.PlainAid
set_option linter.unusedVariables false
set_option linter.unusedSimpArgs false
attribute [local go_sem] Oper.semAt_some

theorem trim_le (s : ByteArray) : (trimT s).size ≤ s.size := by
  have h1 : ∀ (p : UInt8 → Bool) (l : List UInt8), (l.dropWhile p).length ≤ l.length := fun p l => by
    induction l with
    | nil => exact Nat.le_refl _
    | cons a l ih =>
      rw [List.dropWhile_cons]
      split
      · exact Nat.le_succ_of_le ih
      · exact Nat.le_refl _
  show (Lib.trimS s.data.toList [9, 10, 32]).toArray.size ≤ s.data.size
  unfold Lib.trimS Lib.trimLeftS Lib.trimRightS
  rw [List.size_toArray]
  refine Nat.le_trans (h1 _ _) ?_
  rw [List.length_reverse]
  refine Nat.le_trans (h1 _ _) ?_
  rw [List.length_reverse]
  exact Nat.le_refl _
theorem numM_rng (s : ByteArray) : -9223372036854775808 ≤ (numM s).1 ∧ (numM s).1 ≤ 9223372036854775807 := by
  unfold numM
  split
  · exact ⟨by decide, by decide⟩
  · show -9223372036854775808 ≤ IntKind.i64.wrap _ ∧ IntKind.i64.wrap _ ≤ _
    rw [i64_is]; exact wrap64_rng _

set_option maxRecDepth 100000 in
set_option maxHeartbeats 4000000 in
theorem worth_any (s : ByteArray) (w : World) (hs : s.size ≤ 9223372036854775807) : Calls Tryz.prog 96 #[.string s] w fun e w' => e = .returned (.tuple #[.int .i64 (worthM s).1.1, .int .i64 (worthM s).2]) ∧ Below w.heap.size w w' := by
  have hcut : (⟨#[9, 10, 32]⟩ : ByteArray).size < 4294967281 := by decide
  have htr := Lib.hid (fun w => Any.strings_Trim_laid Tryz.lays160 (by kernel_rfl) s ⟨#[9, 10, 32]⟩ w hs hcut (ascii_of_all (by decide)))
  have hwo := Lib.hid (show worthM s = if (trimT s).size = 0 then (zI, 0)
    else if (numM (digT (trimT s))).2 = 0 ∨ (numM (digT (trimT s))).2 < (digT (trimT s)).size then (zI, 60)
    else if bt (trimT s) 0 = 45 then (mkI (-(numM (digT (trimT s))).1), 0) else (mkI (numM (digT (trimT s))).1, 0) from rfl)
  have hle := trim_le s
  have htt := Lib.hid (show (⟨(Lib.trimS s.data.toList (⟨#[9, 10, 32]⟩ : ByteArray).data.toList).toArray⟩ : ByteArray) = trimT s from rfl)
  obtain ⟨t, ht⟩ : ∃ t, trimT s = t := ⟨_, rfl⟩
  rw [ht] at hwo hle htt
  clear ht hcut
  have hb := get_bt t
  have hts : t.size ≤ 9223372036854775807 := by omega
  by_cases hz : t.size = 0
  · have e0 := Lib.hid (size0 hz)
    have hr := Lib.hid (show worthM s = (zI, 0) by rw [hwo.out, if_pos hz])
    rw [hr.out]
    have hnil : (⟨#[]⟩ : ByteArray).toList = [] := by rw [Lib.toList_data]
    go_enter Tryz.func96, Tryz.ntmps96
    go_wp2_with (go_at_call 97; refine (htr.out _).mono ?_; rintro e w2 ⟨rfl, hb2⟩; rw [htt.out, e0.out])
    go_ret2
    exact ⟨rfl, hb2⟩
  · have hne : (!t.toList.isEmpty) = true := str_ne hz
    have hne2 : t.toList.isEmpty = false := by simpa using hne
    have hnil : ¬ t.toList = [] := by simpa using hne2
    have h0 : 0 < t.size := by omega
    have hdg := Lib.hid (show digT t = if signB t then t.extract 1 t.size else t from rfl)
    have hsg := Lib.hid (show signB t = (bt t 0 == 43 || bt t 0 == 45) from rfl)
    have hdl : (digT t).size ≤ t.size := by unfold digT; split <;> (try rw [ByteArray.size_extract]) <;> omega
    obtain ⟨d, hd⟩ : ∃ d, digT t = d := ⟨_, rfl⟩
    rw [hd] at hdg hdl hwo
    clear hd
    go_enter Tryz.func96, Tryz.ntmps96
    go_upto_region 5 with (go_at_call 97; refine (htr.out _).mono ?_; rintro e w2 ⟨rfl, hb2⟩; rw [htt.out]; have hb2H := Lib.hid hb2; clear hb2)
    go_cut [19] (fun s19 wx => s19 = .bool (signB t) ∧ w2 = wx)
    case first =>
      cases c1 : (bt t 0 == 43)
      · cases c2 : (bt t 0 == 45)
        all_goals
          have hr := Lib.hid (show signB t = _ from hsg.out.trans (by rw [c1, c2]))
          go_wp2_with fail
          go_meet
          case rel => rw [hr.out]; exact ⟨rfl, rfl⟩
      · have hr := Lib.hid (show signB t = true from hsg.out.trans (by rw [c1]; rfl))
        go_wp2_with fail
        go_meet
        case rel => rw [hr.out]; exact ⟨rfl, rfl⟩
    case rest =>
      obtain ⟨rfl, rfl⟩ := hcut
      go_upto_if 19 with fail
      go_cut [4] (fun s4 wx => s4 = .string d ∧ w2 = wx)
      case first =>
        cases hS : signB t
        all_goals
          have hr := Lib.hid (show d = _ from hdg.out.trans (by rw [hS]; first | done | rfl))
          go_wp2_with fail
          go_meet
          case rel => rw [hr.out]; exact ⟨rfl, rfl⟩
      case rest =>
        obtain ⟨rfl, rfl⟩ := hcut
        have hnum := Lib.hid (fun w => number_any d w (by omega))
        have hrn := Lib.hid (numM_rng d)
        obtain ⟨x, hx⟩ : ∃ x, (numM d).1 = x := ⟨_, rfl⟩
        obtain ⟨k, hk⟩ : ∃ k, (numM d).2 = k := ⟨_, rfl⟩
        rw [hx, hk] at hnum hwo
        rw [hx] at hrn
        clear hx hk
        obtain ⟨D, hD⟩ : ∃ D, d.size = D := ⟨_, rfl⟩
        rw [hD] at hwo hdl
        by_cases hk0 : k = 0
        · subst hk0
          have hr := Lib.hid (show worthM s = (zI, 60) by rw [hwo.out, if_neg hz, if_pos (.inl rfl)])
          go_wp2_with (go_at_call 39; refine (hnum.out _).mono ?_; rintro e w3 ⟨rfl, hb3⟩)
          go_ret2
          rw [hr.out]
          exact ⟨rfl, hb2H.out.trans (hb3.mono hb2H.out.size)⟩
        · have hk1 : ((k : Int) == 0) = false := beq_eq_false_iff_ne.2 (by omega)
          by_cases hkD : k < D
          · have hr := Lib.hid (show worthM s = (zI, 60) by rw [hwo.out, if_neg hz, if_pos (.inr hkD)])
            go_wp2_with (go_at_call 39; refine (hnum.out _).mono ?_; rintro e w3 ⟨rfl, hb3⟩)
            go_ret2
            rw [hr.out]
            exact ⟨rfl, hb2H.out.trans (hb3.mono hb2H.out.size)⟩
          · have hno : ¬ (k = 0 ∨ k < D) := fun h => h.elim hk0 hkD
            cases c2 : (bt t 0 == 45)
            · have hr := Lib.hid (show worthM s = (mkI x, 0) by rw [hwo.out, if_neg hz, if_neg hno, if_neg (fun e => by rw [e] at c2; cases c2)])
              clear hno hk0
              go_wp2_with (go_at_call 39; refine (hnum.out _).mono ?_; rintro e w3 ⟨rfl, hb3⟩)
              go_ret2
              rw [hr.out, mkI_in hrn.out]
              exact ⟨rfl, hb2H.out.trans (hb3.mono hb2H.out.size)⟩
            · have hr := Lib.hid (show worthM s = (mkI (-x), 0) by rw [hwo.out, if_neg hz, if_neg hno, if_pos (eq_of_beq c2)])
              clear hno hk0
              go_wp2_with (go_at_call 39; refine (hnum.out _).mono ?_; rintro e w3 ⟨rfl, hb3⟩)
              go_ret2
              rw [hr.out]
              exact ⟨ret_pair rfl rfl, hb2H.out.trans (hb3.mono hb2H.out.size)⟩
end Go.Proofs.YtjbmpockoicgmaaGreat
