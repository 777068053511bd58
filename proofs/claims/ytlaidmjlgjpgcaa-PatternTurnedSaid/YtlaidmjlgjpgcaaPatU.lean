/- The reference's Match. Condition: lengths. -/
import Derived.Test.YtlaidmjlgjpgcaaPatT
namespace Go.Proofs.Ytlaidmjlgjpgcaa
open Go.RowKit
attribute [local go_sem] Oper.semAt_some

theorem nu_fit2 {S L a a' : Nat} {star : Int} {back : Nat} (h : a < a') (h2 : a' ≤ L) : nu S L star back a' < nu S L star back a := by unfold nu; omega
theorem elAt_st {p : List Ch} {i : Nat} (h : isAt p i 42 = false) : (elAt p i).1.st = false := by
  unfold elAt
  rw [h]
  split
  · rename_i h1; cases h1
  · split
    · rfl
    · split
      · cases brAt p i with
        | none => rfl
        | some r => rfl
      · rfl
theorem elAt_star {p : List Ch} {i : Nat} (h : isAt p i 42 = true) : elAt p i = (⟨true, fun _ => false⟩, i + 1) := by unfold elAt; rw [if_pos h]
theorem elAt_any {p : List Ch} {i : Nat} (h : isAt p i 42 = false) (h2 : isAt p i 63 = true) : elAt p i = (⟨false, fun _ => true⟩, i + 1) := by unfold elAt; rw [if_neg (by rw [h]; simp), if_pos h2]
theorem elAt_br {p : List Ch} {i : Nat} {S : UInt8 → Bool} {e : Nat} (h : isAt p i 42 = false) (h2 : isAt p i 63 = false) (h3 : isAt p i 91 = true) (h4 : brAt p i = some (S, e)) : elAt p i = (⟨false, S⟩, e) := by
  unfold elAt; rw [if_neg (by rw [h]; simp), if_neg (by rw [h2]; simp), if_pos h3, h4]
theorem elAt_itself {p : List Ch} {i : Nat} {x : Ch} (h : isAt p i 42 = false) (h2 : isAt p i 63 = false) (h3 : isAt p i 91 = false ∨ brAt p i = none) (hx : p[i]? = some x) : elAt p i = (⟨false, fun c => c == x.1⟩, i + 1) := by
  unfold elAt; rw [if_neg (by rw [h]; simp), if_neg (by rw [h2]; simp), chAt_some hx]
  rcases h3 with h3 | h3
  · rw [if_neg (by rw [h3]; simp)]
  · rw [h3]; split <;> rfl
theorem not_mat_else {p : List Ch} {a k : Nat} {s : List UInt8} (ha : a ≤ p.length) (hk : k ≤ s.length) (h42 : isAt p a 42 = false) (hne : ¬ (a = p.length ∧ k = s.length)) (hf : ∀ c, a < p.length → s[k]? = some c → (elAt p a).1.S c = false) : ¬ Mat (els p a) (s.drop k) := by
  by_cases h1 : a < p.length
  · rw [els_cons h1]
    by_cases h2 : k < s.length
    · exact mat_no_set (elAt_st h42) (List.getElem?_eq_getElem h2) (hf _ h1 (List.getElem?_eq_getElem h2))
    · rw [List.drop_eq_nil_of_le (by omega)]
      exact mat_no_end (elAt_st h42)
  · rw [els_nil (by omega)]
    exact mat_no_nil (by omega)

set_option maxHeartbeats 4000000 in
set_option maxRecDepth 100000 in
theorem refMatch_any (av : Option Addr) (n cv : Nat) (p : List Ch) (s : ByteArray) (w : World) (hn : p.length = n) (hP : ChsAt w.heap.size w av p) (hn2 : n ≤ 1000000) (hs : s.size ≤ 1000000) :
    Calls Try.prog 16 #[.slice av n cv, .string s] w (MatchR p s w) := by
  have hnH := Lib.hid hn
  have hPH := Lib.hid hP
  obtain ⟨n₀, hn₀⟩ : ∃ n₀, w.heap.size = n₀ := ⟨_, rfl⟩
  rw [hn₀] at hPH
  have hn₀H := Lib.hid hn₀
  have hLw : Hid (∀ W, Below n₀ w W → Lies av n p W) := Lib.hid (fun W hW => lies_below hnH.out hPH.out hn2 hW)
  obtain ⟨M, hM⟩ : ∃ M, Mat (els p 0) s.data.toList = M := ⟨_, rfl⟩
  have hMH := Lib.hid hM
  have hsl : Hid (s.data.toList.length = s.size) := Lib.hid rfl
  clear hn hP hn₀ hM
  go_enter Try.func16, Try.ntmps16
  go_wp2_with fail
  go_loopw [5, 6, 7, 8] (fun s5 s6 s7 s8 wr => ∃ (a k : Nat) (o : Option (Nat × Nat)), s5 = .int .i64 a ∧ s6 = .int .i64 k ∧ s7 = .int .i64 (starI o) ∧ s8 = .int .i64 (backI o : Nat) ∧ a ≤ n ∧ k ≤ s.size ∧ Hid (starOk n a o) ∧ Hid (Inv (fun i => els p i) s.data.toList M a k o) ∧ Hid (Below n₀ w wr)) (fun s5 _ s7 s8 _ => nu s.size n (intOf s7) (intOf s8).toNat (intOf s5).toNat)
  case atStart => exact ⟨0, 0, none, rfl, rfl, rfl, rfl, Nat.zero_le _, Nat.zero_le _, Lib.hid trivial, Lib.hid ⟨by rw [← hMH.out]; exact Iff.rfl, Nat.zero_le _⟩, Lib.hid (Below.refl _ _)⟩
  case round =>
    obtain ⟨a, k, o, rfl, rfl, rfl, rfl, haL, hkS, hso, hI, hB⟩ := hrel
    obtain ⟨st, hst⟩ : ∃ st, starI o = st := ⟨_, rfl⟩
    obtain ⟨bk, hbk⟩ : ∃ bk, backI o = bk := ⟨_, rfl⟩
    have hbs : bk ≤ k := by
      rw [← hbk]
      rcases o with _ | ⟨z, f⟩
      · exact Nat.zero_le _
      · exact hI.out.from_le
    have hst1 : -1 ≤ st ∧ st < n + 1 := by
      rw [← hst]
      rcases o with _ | ⟨z, f⟩
      · exact ⟨Int.le_refl _, by show (-1 : Int) < _; omega⟩
      · obtain ⟨h1, h2, h3⟩ := hso.out
        exact ⟨by show (-1 : Int) ≤ (z : Int) - 1; omega, by show (z : Int) - 1 < _; omega⟩
    rw [hst, hbk]
    have hoH := Lib.hid (And.intro hst hbk)
    clear hst hbk
    obtain ⟨v42, hv42⟩ : ∃ v, isAt p a 42 = v := ⟨_, rfl⟩
    have h42 := Lib.hid (is42 cv a (hLw.out wr hB.out) (by omega))
    rw [hv42] at h42
    cases v42
    · have hv42H := Lib.hid hv42
      clear hv42
      go_upto_region 6 with ((go_at_call 34; (with_reducible refine h42.out.mono ?_); rintro e w1 ⟨rfl, rfl⟩))
      clear h42
      go_cut [29] (fun s29 wx => s29 = .bool (decide (a = n ∧ k = s.size)) ∧ wr = wx)
      case first =>
        by_cases h1 : a = n
        · have e1 : ((a : Int) == (n : Int)) = true := by rw [h1]; simp
          by_cases h2 : k = s.size
          · have e2 : ((k : Int) == (s.size : Int)) = true := by rw [h2]; simp
            have hd := Lib.hid (decide_eq_true (And.intro h1 h2))
            clear h1 h2
            go_wp2_with fail
            go_meet
            exact ⟨by rw [hd.out], rfl⟩
          · have e2 : ((k : Int) == (s.size : Int)) = false := beq_eq_false_iff_ne.2 (by omega)
            have hd := Lib.hid (decide_eq_false (p := a = n ∧ k = s.size) (fun h => h2 h.2))
            clear h1 h2
            go_wp2_with fail
            go_meet
            exact ⟨by rw [hd.out], rfl⟩
        · have e1 : ((a : Int) == (n : Int)) = false := beq_eq_false_iff_ne.2 (by omega)
          have hd := Lib.hid (decide_eq_false (p := a = n ∧ k = s.size) (fun h => h1 h.1))
          clear h1
          go_wp2_with fail
          go_meet
          exact ⟨by rw [hd.out], rfl⟩
      case rest =>
        obtain ⟨rfl, rfl⟩ := hcut
        by_cases hend : a = n ∧ k = s.size
        · have hyes : Hid M := Lib.hid (by
            have h := hI.out
            rw [hend.1, hend.2, ← hsl.out] at h
            exact h.at_end.2 (by rw [els_nil (by rw [hnH.out]; exact Nat.le_refl _)]; rfl))
          have hd := decide_eq_true hend
          rw [hd]
          clear hend hd
          go_wp2_with fail
          go_ret
          refine ⟨by rw [hn₀H.out]; exact hB.out, true, rfl, ?_⟩
          rw [hMH.out]
          exact ⟨fun _ => hyes.out, fun _ => rfl⟩
        · have hd := decide_eq_false hend
          rw [hd]
          have hendH := Lib.hid hend
          clear hend hd
          obtain ⟨ok, hok⟩ : ∃ ok, (match s.data.toList[k]? with | some c => decide (a < n) && (elAt p a).1.S c | none => false) = ok := ⟨_, rfl⟩
          obtain ⟨nn, hnn⟩ : ∃ nn : Nat, (if a < n ∧ k < s.size then (elAt p a).2 - a else 1) = nn := ⟨_, rfl⟩
          have hokH := Lib.hid hok
          have hnnH := Lib.hid hnn
          clear hok hnn
          go_upto_region 10 with fail
          go_cut [39] (fun s39 wx => s39 = .bool (decide (a < n ∧ k < s.size)) ∧ wr = wx)
          case first =>
            by_cases h1 : a < n
            · have e1 : (a : Int) < (n : Int) := by omega
              by_cases h2 : k < s.size
              · have e2 : (k : Int) < (s.size : Int) := by omega
                have hd := Lib.hid (decide_eq_true (And.intro h1 h2))
                clear h1 h2
                go_wp2_with fail
                go_meet
                exact ⟨by rw [hd.out], rfl⟩
              · have e2 : ¬ (k : Int) < (s.size : Int) := by omega
                have hd := Lib.hid (decide_eq_false (p := a < n ∧ k < s.size) (fun h => h2 h.2))
                clear h1 h2
                go_wp2_with fail
                go_meet
                exact ⟨by rw [hd.out], rfl⟩
            · have e1 : ¬ (a : Int) < (n : Int) := by omega
              have hd := Lib.hid (decide_eq_false (p := a < n ∧ k < s.size) (fun h => h1 h.1))
              clear h1
              go_wp2_with fail
              go_meet
              exact ⟨by rw [hd.out], rfl⟩
          case rest =>
            obtain ⟨rfl, rfl⟩ := hcut
            obtain ⟨inn, hinn⟩ : ∃ inn, decide (a < n ∧ k < s.size) = inn := ⟨_, rfl⟩
            rw [hinn]
            have hinH := Lib.hid hinn
            clear hinn
            go_upto_if 39 with fail
            go_cut [9, 10] (fun s9 s10 wx => s9 = .bool ok ∧ s10 = .int .i64 (nn : Int) ∧ Hid (Below n₀ w wx))
            case first =>
              cases inn
              · have hno := of_decide_eq_false hinH.out
                have hok2 : Hid (ok = false) := Lib.hid (by
                  rw [← hokH.out]
                  cases hc : s.data.toList[k]? with
                  | none => rfl
                  | some c =>
                    have h2 := (List.getElem?_eq_some_iff.1 hc).1
                    have h3 := hsl.out
                    dsimp only
                    rw [decide_eq_false (fun h => hno ⟨h, by omega⟩)]; rfl)
                have hnn2 : Hid (nn = 1) := Lib.hid (by rw [← hnnH.out, if_neg hno])
                clear hno
                go_wp2_with fail
                go_meet
                exact ⟨by rw [hok2.out], by rw [hnn2.out]; rfl, hB⟩
              · have hyes := of_decide_eq_true hinH.out
                obtain ⟨h1, h2⟩ := hyes
                have h1' : (a : Int) < (n : Int) := by omega
                have h2' : (k : Int) < (s.size : Int) := by omega
                obtain ⟨c, hc⟩ : ∃ c, s[k] = c := ⟨_, rfl⟩
                have hcL : s.data.toList[k]? = some c := by rw [← hc]; exact List.getElem?_eq_getElem h2
                have hok2 : Hid (ok = (elAt p a).1.S c) := Lib.hid (by rw [← hokH.out, hcL]; dsimp only; rw [decide_eq_true h1]; rfl)
                have hnn2 : Hid (nn = (elAt p a).2 - a) := Lib.hid (by rw [← hnnH.out, if_pos ⟨h1, h2⟩])
                obtain ⟨x, hx⟩ : ∃ x, p[a]? = some x := ⟨_, List.getElem?_eq_getElem (by rw [hnH.out]; exact h1)⟩
                have hxH := Lib.hid hx
                obtain ⟨_, hA⟩ := (hLw.out wr hB.out).at_
                obtain ⟨g, off, rfl, _, c0, _⟩ := hA a x hx
                obtain ⟨eb, heb⟩ : ∃ eb, ((x.1.toNat : Int) == (c.toNat : Int)) = eb := ⟨_, rfl⟩
                have hebH : Hid ((c == x.1) = eb) := Lib.hid (by
                  rw [← heb, u8_eq, Bool.eq_iff_iff, beq_iff_eq, decide_eq_true_iff]
                  exact ⟨fun h => h.symm, fun h => h.symm⟩)
                obtain ⟨v63, hv63⟩ : ∃ v, isAt p a 63 = v := ⟨_, rfl⟩
                obtain ⟨v91, hv91⟩ : ∃ v, isAt p a 91 = v := ⟨_, rfl⟩
                have hatH := Lib.hid (And.intro hv63 hv91)
                have hinj : Hid (v63 = true → v91 = false) := Lib.hid (fun h => by
                  rw [h] at hv63
                  cases v91
                  · rfl
                  · exact absurd (isAt_inj hv63 hv91) (by decide))
                have h63 : Hid (∀ m, Calls Try.prog 34 #[.slice (some ⟨g, off, none⟩) n cv, .int .i64 (a : Int), .int .u8 63] (wr.drewN m) fun e w' => e = .returned (.bool v63) ∧ wr.drewN m = w') := Lib.hid (fun m => by rw [← hv63]; exact is63 cv a (hLw.out _ (below_drewN hB.out m)) (by omega))
                have h91 : Hid (∀ m, Calls Try.prog 34 #[.slice (some ⟨g, off, none⟩) n cv, .int .i64 (a : Int), .int .u8 91] (wr.drewN m) fun e w' => e = .returned (.bool v91) ∧ wr.drewN m = w') := Lib.hid (fun m => by rw [← hv91]; exact is91 cv a (hLw.out _ (below_drewN hB.out m)) (by omega))
                have hbrk : Hid (∀ m, Calls Try.prog 35 #[.slice (some ⟨g, off, none⟩) n cv, .int .i64 (a : Int), .int .u8 (c.toNat : Int)] (wr.drewN m) (RefBrR (brAt p a) a c (wr.drewN m))) := Lib.hid (fun m => refBracket_any _ n cv p a c _ hnH.out ((hPH.out.below (below_drewN hB.out m)).mono (by have := (below_drewN hB.out m).size; have := hn₀H.out; omega)) hn2 h1)
                have hk0 : (0 : Int) ≤ (k : Int) := by omega
                clear hx hA hcL hv63 hv91 h1
                go_upto_region 11 with fail
                go_quiet (fail)
                clear c0
                cases v63
                · cases v91
                  · have hel : Hid (elAt p a = (⟨false, fun c => c == x.1⟩, a + 1)) := Lib.hid (elAt_itself hv42H.out hatH.out.1 (.inl hatH.out.2) hxH.out)
                    go_wp2_with (first | (go_at_call 34; (with_reducible refine (h63.out _).mono ?_); rintro e w1 ⟨rfl, rfl⟩) | (go_at_call 34; (with_reducible refine (h91.out _).mono ?_); rintro e w1 ⟨rfl, rfl⟩))
                    go_meet
                    exact ⟨by rw [hok2.out, hel.out, ← hebH.out], by rw [hnn2.out, hel.out]; show Value.int .i64 1 = .int .i64 ((a + 1 - a : Nat) : Int); rw [show a + 1 - a = 1 by omega]; rfl, Lib.hid (below_drewN hB.out _)⟩
                  · go_wp2_with (first | (go_at_call 34; (with_reducible refine (h63.out _).mono ?_); rintro e w1 ⟨rfl, rfl⟩) | (go_at_call 34; (with_reducible refine (h91.out _).mono ?_); rintro e w1 ⟨rfl, rfl⟩))
                    refine (hbrk.out _).mono ?_
                    rintro e w2 ⟨hb2, ⟨S, x2, hbr, rfl⟩ | ⟨hbr, rfl⟩⟩
                    · have hnx := brAt_next hbr
                      have hel : Hid (elAt p a = (⟨false, S⟩, x2)) := Lib.hid (elAt_br hv42H.out hatH.out.1 hatH.out.2 hbr)
                      have hB2 : Hid (Below n₀ w w2) := Lib.hid ((below_drewN hB.out _).trans (hb2.mono (by have := (below_drewN hB.out 0).size; have := hn₀H.out; simp at *; omega)))
                      have hx2 : (0 : Int) < (x2 : Int) - (a : Int) := by omega
                      have hx3 : (x2 : Int) ≤ 1000000 := by have := hnH.out; omega
                      clear hbr hb2 hnx
                      go_wp2_with fail
                      go_meet
                      exact ⟨by rw [hok2.out, hel.out], by rw [hnn2.out, hel.out]; show Value.int .i64 _ = .int .i64 ((x2 - a : Nat) : Int); rw [show ((x2 - a : Nat) : Int) = (x2 : Int) - (a : Int) by omega], hB2⟩
                    · have hel : Hid (elAt p a = (⟨false, fun c => c == x.1⟩, a + 1)) := Lib.hid (elAt_itself hv42H.out hatH.out.1 (.inr hbr) hxH.out)
                      have hB2 : Hid (Below n₀ w w2) := Lib.hid ((below_drewN hB.out _).trans (hb2.mono (by have := (below_drewN hB.out 0).size; have := hn₀H.out; simp at *; omega)))
                      clear hbr hb2
                      go_wp2_with fail
                      go_meet
                      exact ⟨by rw [hok2.out, hel.out, ← hebH.out], by rw [hnn2.out, hel.out]; show Value.int .i64 1 = .int .i64 ((a + 1 - a : Nat) : Int); rw [show a + 1 - a = 1 by omega]; rfl, hB2⟩
                · obtain rfl := hinj.out rfl
                  have hel : Hid (elAt p a = (⟨false, fun _ => true⟩, a + 1)) := Lib.hid (elAt_any hv42H.out hatH.out.1)
                  go_wp2_with (first | (go_at_call 34; (with_reducible refine (h63.out _).mono ?_); rintro e w1 ⟨rfl, rfl⟩) | (go_at_call 34; (with_reducible refine (h91.out _).mono ?_); rintro e w1 ⟨rfl, rfl⟩))
                  go_meet
                  exact ⟨by rw [hok2.out, hel.out], by rw [hnn2.out, hel.out]; show Value.int .i64 1 = .int .i64 ((a + 1 - a : Nat) : Int); rw [show a + 1 - a = 1 by omega]; rfl, Lib.hid (below_drewN hB.out _)⟩
            case rest =>
              obtain ⟨rfl, rfl, hBc⟩ := hcut
              cases ok
              · have hnm : Hid (¬ Mat (els p a) (s.data.toList.drop k)) := Lib.hid (not_mat_else (by rw [hnH.out]; exact haL) (by rw [hsl.out]; exact hkS) hv42H.out (by rw [hnH.out, hsl.out]; exact hendH.out) (fun c h1 hc => by
                  have h := hokH.out
                  rw [hc] at h
                  dsimp only at h
                  rwa [decide_eq_true (by rw [← hnH.out]; exact h1), Bool.true_and] at h))
                rcases o with _ | ⟨z, f⟩
                · obtain rfl : st = -1 := hoH.out.1.symm
                  have hno : Hid (¬ M) := Lib.hid (hI.out.none_no hnm.out)
                  go_wp2_with fail
                  go_ret
                  refine ⟨by rw [hn₀H.out]; exact hBc.out, false, rfl, ?_⟩
                  rw [hMH.out]
                  exact ⟨(fun h => by cases h), fun h => absurd h hno.out⟩
                · obtain rfl : st = (z : Int) - 1 := hoH.out.1.symm
                  obtain rfl : bk = f := hoH.out.2.symm
                  have hz1 : 1 ≤ z := hso.out.1
                  have hz2 := hso.out.2.1
                  have hz3 : ¬ (z : Int) - 1 < 0 := by omega
                  have hz4 : (1 : Int) ≤ (z : Int) := by omega
                  have hz5 : ¬ (z : Int) < 1 := by omega
                  by_cases hbk2 : bk < s.size
                  · have hb3 : ¬ (s.size : Int) ≤ (bk : Int) := by omega
                    go_wp2_with fail
                    go_roundw
                    case rel => exact ⟨z, bk + 1, some (z, bk + 1), by show Value.int .i64 _ = .int .i64 (z : Int); go_num, by go_num, rfl, by show Value.int .i64 _ = .int .i64 ((bk + 1 : Nat) : Int); go_num, by omega, by omega, Lib.hid ⟨hz1, hz2, Nat.le_refl _⟩, Lib.hid (hI.out.back (by rw [hsl.out]; exact hbk2) hnm.out), hBc⟩
                    case measure =>
                      have := nu_back (S := s.size) (L := n) (a := a) (z := z) (back := bk) (star := (z : Int) - 1) (by omega) hz2 hbk2
                      simp only [intOf]
                      first
                        | (rw [show ((z : Int)).toNat = z by omega, show ((bk : Int) + 1).toNat = bk + 1 by omega, show ((a : Int)).toNat = a by omega, show ((bk : Int)).toNat = bk by omega]; exact this)
                        | (rw [show ((z : Int) - 1 + 1).toNat = z by omega, show ((bk : Int) + 1).toNat = bk + 1 by omega, show ((a : Int)).toNat = a by omega, show ((bk : Int)).toNat = bk by omega]; exact this)
                  · have hb3 : (s.size : Int) ≤ (bk : Int) := by omega
                    have hno : Hid (¬ M) := Lib.hid (hI.out.end_no (by rw [hsl.out]; omega) hnm.out)
                    clear hbk2
                    go_wp2_with fail
                    go_ret
                    refine ⟨by rw [hn₀H.out]; exact hBc.out, false, rfl, ?_⟩
                    rw [hMH.out]
                    exact ⟨(fun h => by cases h), fun h => absurd h hno.out⟩
              · obtain ⟨c, hc, han, hS⟩ : ∃ c, s.data.toList[k]? = some c ∧ a < n ∧ (elAt p a).1.S c = true := by
                  have h := hokH.out
                  cases hc : s.data.toList[k]? with
                  | none => rw [hc] at h; cases h
                  | some c =>
                    rw [hc] at h
                    dsimp only at h
                    rw [Bool.and_eq_true, decide_eq_true_iff] at h
                    exact ⟨c, rfl, h.1, h.2⟩
                have hkk : k < s.size := by have h1 := (List.getElem?_eq_some_iff.1 hc).1; have h2 := hsl.out; omega
                obtain ⟨hx1, hx2⟩ := elAt_next p a (by rw [hnH.out]; exact han)
                rw [hnH.out] at hx2
                have hnn2 : a + nn = (elAt p a).2 := by rw [← hnnH.out, if_pos ⟨han, hkk⟩]; omega
                have hfit : Hid (Inv (fun i => els p i) s.data.toList M (a + nn) (k + 1) o) := Lib.hid (by
                  rw [hnn2]
                  exact hI.out.fit (els_cons (by rw [hnH.out]; exact han)) (elAt_st hv42H.out) hc hS)
                have hlo : a < a + nn ∧ a + nn ≤ n := by rw [hnn2]; exact ⟨hx1, hx2⟩
                obtain ⟨hlo1, hlo2⟩ := hlo
                clear hc hS hx1 hx2 hnn2
                go_wp2_with fail
                go_roundw
                case rel => exact ⟨a + nn, k + 1, o, by go_num, by go_num, by rw [hoH.out.1], by rw [hoH.out.2], by omega, by omega, Lib.hid (by
                  have h := hso.out
                  rcases o with _ | ⟨z, f⟩
                  · trivial
                  · exact ⟨h.1, h.2.1, by have := h.2.2; omega⟩), hfit, hBc⟩
                case measure =>
                  have := nu_fit2 (S := s.size) (L := n) (a := a) (a' := a + nn) (star := st) (back := bk) hlo1 hlo2
                  simp only [intOf]
                  rw [show ((a : Int) + (nn : Int)).toNat = a + nn by omega, show ((a : Int)).toNat = a by omega, show ((bk : Int)).toNat = bk by omega]
                  exact this
    · have han : a < n := by have := isAt_lt hv42; rw [hnH.out] at this; exact this
      have hde : Hid (els p a = ⟨true, fun _ => false⟩ :: els p (a + 1)) := Lib.hid (by rw [els_cons (by rw [hnH.out]; exact han), elAt_star hv42])
      clear hv42
      go_wp2_with ((go_at_call 34; (with_reducible refine h42.out.mono ?_); rintro e w1 ⟨rfl, rfl⟩))
      go_roundw
      case rel => exact ⟨a + 1, k, some (a + 1, k), by go_num, rfl, by show Value.int .i64 _ = .int .i64 (((a + 1 : Nat) : Int) - 1); rw [show (((a + 1 : Nat) : Int) - 1) = a by omega], rfl, by omega, by omega, Lib.hid ⟨by omega, by omega, by omega⟩, Lib.hid (hI.out.star hde.out rfl), hB⟩
      case measure =>
        have := nu_star (S := s.size) (L := n) (a := a) (place := k) (star := st) (back := bk) han (.inr hbs)
        simp only [intOf]
        rw [show ((a : Int) + 1).toNat = a + 1 by omega, show ((a : Int)).toNat = a by omega, show ((bk : Int)).toNat = bk by omega, show ((k : Int)).toNat = k by omega]
        exact this
end Go.Proofs.Ytlaidmjlgjpgcaa
