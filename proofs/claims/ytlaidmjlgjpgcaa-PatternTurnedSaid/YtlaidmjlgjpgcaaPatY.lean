/- awake, of the layer pattern; PatternTexts' walk. Condition: none but the form's own. -/
import Derived.Test.YtlaidmjlgjpgcaaPatX
namespace Go.Proofs.Ytlaidmjlgjpgcaa
open Go.RowKit
attribute [local go_sem] Oper.semAt_some

/-- A pattern that the program made. -/
def GotR (l : List Ch) (w : World) (e : Ending) (w' : World) : Prop := Below w.heap.size w w' ∧ ∃ av cv, e = .returned (.slice av l.length cv) ∧ ChsAt w'.heap.size w' av l
theorem got_ofR {l : List Ch} {w : World} {e : Ending} {w' : World} (h : OfR l w e w') : GotR l w e w' := by
  obtain ⟨hb, v, rfl, hown⟩ := h
  obtain ⟨av, cv, rfl, hP⟩ := own_chs hown
  exact ⟨hb, av, cv, rfl, hP⟩
theorem got_of (s : ByteArray) (w : World) (hs : s.size ≤ 1000000) : Calls Try.prog 23 #[.string s] w (GotR (ofL s.data.toList) w) := (of_any s w hs).mono fun _ _ h => got_ofR h
theorem got_refOf (s : ByteArray) (w : World) (hs : s.size ≤ 1000000) : Calls Try.prog 24 #[.string s] w (GotR (ofL s.data.toList) w) := (refOf_any s w hs).mono fun _ _ h => got_ofR h
theorem got_plain (s : ByteArray) (w : World) (hs : s.size ≤ 1000000) : Calls Try.prog 22 #[.string s] w (GotR (s.data.toList.map fun c => (c, true)) w) := (plain_any s w hs).mono fun _ _ h => got_ofR h
theorem got_refPlain (s : ByteArray) (w : World) (hs : s.size ≤ 1000000) : Calls Try.prog 25 #[.string s] w (GotR (s.data.toList.map fun c => (c, true)) w) := (refPlain_any s w hs).mono fun _ _ h => got_ofR h
theorem gotA (w : World) : Calls Try.prog 23 #[.string ⟨#[97, 42, 91, 98, 45, 100, 93]⟩] w (GotR pA w) := by
  have h := got_of ⟨#[97, 42, 91, 98, 45, 100, 93]⟩ w (by decide)
  rwa [show ofL (⟨#[97, 42, 91, 98, 45, 100, 93]⟩ : ByteArray).data.toList = pA from pA_of] at h
theorem gotB (w : World) : Calls Try.prog 23 #[.string ⟨#[91, 33, 97, 93]⟩] w (GotR pB w) := by
  have h := got_of ⟨#[91, 33, 97, 93]⟩ w (by decide)
  rwa [show ofL (⟨#[91, 33, 97, 93]⟩ : ByteArray).data.toList = pB from pB_of] at h
theorem gotC (w : World) : Calls Try.prog 23 #[.string ⟨#[42, 46]⟩] w (GotR pC w) := by
  have h := got_of ⟨#[42, 46]⟩ w (by decide)
  rwa [show ofL (⟨#[42, 46]⟩ : ByteArray).data.toList = pC from pC_of] at h
def TrueR (w : World) (e : Ending) (w' : World) : Prop := e = .returned (.bool true) ∧ Below w.heap.size w w'
theorem below_on {n : Nat} {w w1 w2 : World} (h : Below n w w1) (hn : n ≤ w.heap.size) (k : Below w1.heap.size w1 w2) : Below n w w2 := h.trans (k.mono (Nat.le_trans hn h.size))

set_option maxHeartbeats 1000000 in
theorem awake2_any (w : World) : Calls Try.prog 14 #[] w (TrueR w) := by
  have hwr := Nat.le_refl w.heap.size
  go_enter Try.func14, Try.ntmps14
  go_wp2_with fail
  refine (gotA w).mono ?_
  rintro e w1 ⟨hb1, av1, cv1, rfl, hP1⟩
  have B1 := Lib.hid hb1
  have m1 := Lib.hid (match_any av1 _ cv1 pA ⟨#[97, 120, 120, 99]⟩ w1 rfl hP1 (by decide) (by decide))
  clear hb1 hP1
  go_wp2_with fail
  refine m1.out.mono ?_
  rintro e w2 ⟨hb2, b2, rfl, h2⟩
  obtain rfl : b2 = true := h2.2 aw1
  have B2 := Lib.hid (below_on B1.out hwr hb2)
  clear hb2 h2
  go_wp2_with fail
  refine (gotB w2).mono ?_
  rintro e w3 ⟨hb3, av3, cv3, rfl, hP3⟩
  have B3 := Lib.hid (below_on B2.out hwr hb3)
  have m3 := Lib.hid (match_any av3 _ cv3 pB ⟨#[97]⟩ w3 rfl hP3 (by decide) (by decide))
  clear hb3 hP3
  go_wp2_with fail
  refine m3.out.mono ?_
  rintro e w4 ⟨hb4, b4, rfl, h4⟩
  obtain rfl : b4 = false := by
    cases b4
    · rfl
    · exact absurd (h4.1 rfl) aw2
  have B4 := Lib.hid (below_on B3.out hwr hb4)
  clear hb4 h4
  go_wp2_with fail
  refine (gotC w4).mono ?_
  rintro e w5 ⟨hb5, av5, cv5, rfl, hP5⟩
  have B5 := Lib.hid (below_on B4.out hwr hb5)
  have m5 := Lib.hid (cut_any av5 _ cv5 pC ⟨#[97, 46, 98, 46, 99]⟩ false false w5 rfl hP5 (by decide) (by decide))
  clear hb5 hP5
  go_wp2_with fail
  refine m5.out.mono ?_
  rintro e w6 ⟨hb6, t, rfl, ht⟩
  obtain rfl : t = ⟨#[98, 46, 99]⟩ := ht.unique aw3
  have B6 := Lib.hid (below_on B5.out hwr hb6)
  clear hb6 ht
  go_wp2_with fail
  go_ret
  exact ⟨rfl, B6.out⟩

/-- All quoted, a text matches itself alone. -/
theorem els_quoted (s : List UInt8) (t : List UInt8) : Mat (els (s.map fun c => (c, true)) 0) t ↔ s = t := by
  rw [els_plain _ (fun x hx => by
    obtain ⟨c, _, rfl⟩ := List.mem_map.1 hx
    simp [bareB]) _ 0 (Nat.le_refl _), List.drop_zero, List.map_map]
  induction s generalizing t with
  | nil => exact ⟨fun h => h.symm, fun h => h.symm⟩
  | cons c s ih =>
    have e : el1 (c, true) = ⟨false, fun x => x == c⟩ := by unfold el1; simp [bareB]
    rw [List.map_cons, mat_set (by show (el1 (c, true)).st = false; rw [e])]
    constructor
    · rintro ⟨d, u, rfl, hS, hm⟩
      have hS' : (el1 (c, true)).S d = true := hS
      rw [e] at hS'
      obtain rfl : d = c := beq_iff_eq.1 hS'
      rw [(ih u).1 hm]
    · rintro rfl
      refine ⟨c, s, rfl, ?_, (ih s).2 rfl⟩
      show (el1 (c, true)).S c = true
      rw [e]; simp
theorem wild_quoted (s : List UInt8) : wildB (s.map fun c => (c, true)) = false := by
  unfold wildB
  rw [List.any_eq_false]
  intro x hx
  obtain ⟨c, _, rfl⟩ := List.mem_map.1 hx
  simp [bareB]
theorem map_len (s : ByteArray) : (s.data.toList.map fun c => (c, true)).length = s.size := by rw [List.length_map]; rfl
theorem ofL_len (s : List UInt8) : (ofL s).length ≤ s.length := by
  induction s using ofL.induct with
  | case1 => simp [ofL]
  | case2 c => simp [ofL]
  | case3 d t ih => rw [ofL_take]; simp; omega
  | case4 c d t h ih => rw [ofL_plain h]; simp at *; omega

set_option maxHeartbeats 2000000 in
set_option maxRecDepth 100000 in
theorem patternTexts_walk (s t : ByteArray) (w : World) (hs : s.size ≤ maxLen) (ht : t.size ≤ maxLen) : Calls Try.prog 5 #[.string s, .string t] w (TrueR w) := by
  unfold maxLen at hs ht
  have hwr := Nat.le_refl w.heap.size
  have hea : Hid ((s.data.toList = t.data.toList) = (s = t)) := Lib.hid (propext ⟨fun h => by
    cases s; cases t
    congr 1
    exact Array.toList_inj.1 h, fun h => by rw [h]⟩)
  go_enter Try.func5, Try.ntmps5
  go_wp2_with fail
  refine (awake2_any w).mono ?_
  rintro e w1 ⟨rfl, hb1⟩
  have B1 := Lib.hid hb1
  clear hb1
  by_cases h1 : (400 : Int) < s.size
  · go_wp2_with fail
    go_ret
    exact ⟨rfl, B1.out⟩
  · by_cases h2 : (400 : Int) < t.size
    · go_wp2_with fail
      go_ret
      exact ⟨rfl, B1.out⟩
    · have hs4 : s.size ≤ 1000000 := by omega
      have ht4 : t.size ≤ 1000000 := by omega
      obtain ⟨pl, hpl⟩ : ∃ pl, (s.data.toList.map fun c => (c, true)) = pl := ⟨_, rfl⟩
      obtain ⟨po, hpo⟩ : ∃ po, ofL s.data.toList = po := ⟨_, rfl⟩
      have hpll : Hid (pl.length = s.size) := Lib.hid (by rw [← hpl]; exact map_len s)
      have hpol : Hid (po.length ≤ s.size) := Lib.hid (by rw [← hpo]; exact ofL_len _)
      have hplH := Lib.hid hpl
      have c22 := Lib.hid (got_plain s w1 hs4)
      rw [hpl] at c22
      have c23 : Hid (∀ W, Calls Try.prog 23 #[.string s] W (GotR po W)) := Lib.hid (fun W => by rw [← hpo]; exact got_of s W hs4)
      have c24 : Hid (∀ W, Calls Try.prog 24 #[.string s] W (GotR po W)) := Lib.hid (fun W => by rw [← hpo]; exact got_refOf s W hs4)
      have c25 : Hid (∀ W, Calls Try.prog 25 #[.string s] W (GotR pl W)) := Lib.hid (fun W => by rw [← hpl]; exact got_refPlain s W hs4)
      clear hpl hpo
      go_wp2_with fail
      refine c22.out.mono ?_
      rintro e w2 ⟨hb2, av2, cv2, rfl, hP2⟩
      have B2 := Lib.hid (below_on B1.out hwr hb2)
      have P2 : Hid (∀ W, Below w2.heap.size w2 W → ChsAt W.heap.size W av2 pl) := Lib.hid (fun W hW => (hP2.below hW).mono hW.size)
      have hw2 := Nat.le_refl w2.heap.size
      obtain ⟨n2, hn2⟩ : ∃ n2, pl.length = n2 := ⟨_, rfl⟩
      rw [hn2]
      have hn2H := Lib.hid hn2
      have hn2' : n2 ≤ 1000000 := by have := hpll.out; omega
      clear hb2 hP2 c22 hn2
      go_wp2_with fail
      refine (c23.out w2).mono ?_
      rintro e w3 ⟨hb3, av3, cv3, rfl, hP3⟩
      have E3 := Lib.hid hb3
      have P3 : Hid (∀ W, Below w3.heap.size w3 W → ChsAt W.heap.size W av3 po) := Lib.hid (fun W hW => (hP3.below hW).mono hW.size)
      obtain ⟨n3, hn3⟩ : ∃ n3, po.length = n3 := ⟨_, rfl⟩
      rw [hn3]
      have hn3H := Lib.hid hn3
      have hn3' : n3 ≤ 1000000 := by have := hpol.out; omega
      clear hb3 hP3 hn3
      go_wp2_with fail
      refine (c24.out w3).mono ?_
      rintro e w4 ⟨hb4, av4, cv4, rfl, hP4⟩
      have E4 := Lib.hid (below_on E3.out hw2 hb4)
      have s19 := Lib.hid (samePat_yes av3 av4 cv3 cv4 n3 po w4 ⟨hn3H.out, ⟨_, P3.out w4 hb4⟩, hn3'⟩ ⟨hn3H.out, ⟨_, hP4⟩, hn3'⟩)
      rw [hn3H.out]
      clear hb4 hP4
      go_wp2_with fail
      refine s19.out.mono ?_
      rintro e w5 ⟨rfl, m5, rfl⟩
      have E5 := Lib.hid (below_drewN E4.out m5)
      clear s19
      obtain ⟨w5, hw5⟩ : ∃ w5, w4.drewN m5 = w5 := ⟨_, rfl⟩
      rw [hw5] at E5 ⊢
      clear hw5
      go_wp2_with fail
      refine (c25.out w5).mono ?_
      rintro e w6 ⟨hb6, av6, cv6, rfl, hP6⟩
      have E6 := Lib.hid (below_on E5.out hw2 hb6)
      have s19 := Lib.hid (samePat_yes av2 av6 cv2 cv6 n2 pl w6 ⟨hn2H.out, ⟨_, P2.out w6 E6.out⟩, hn2'⟩ ⟨hn2H.out, ⟨_, hP6⟩, hn2'⟩)
      rw [hn2H.out]
      clear hb6 hP6
      go_wp2_with fail
      refine s19.out.mono ?_
      rintro e w7 ⟨rfl, m7, rfl⟩
      have E7 := Lib.hid (below_drewN E6.out m7)
      clear s19
      obtain ⟨w7, hw7⟩ : ∃ w7, w6.drewN m7 = w7 := ⟨_, rfl⟩
      rw [hw7] at E7 ⊢
      clear hw7
      have c15 := Lib.hid (match_any av2 n2 cv2 pl s w7 hn2H.out (P2.out w7 E7.out) hn2' hs4)
      go_wp2_with fail
      refine c15.out.mono ?_
      rintro e w8 ⟨hb8, b8, rfl, h8⟩
      obtain rfl : b8 = true := h8.2 (by rw [← hplH.out, els_quoted])
      have E8 := Lib.hid (below_on E7.out hw2 hb8)
      clear hb8 h8 c15
      have c15 := Lib.hid (match_any av2 n2 cv2 pl t w8 hn2H.out (P2.out w8 E8.out) hn2' ht4)
      go_wp2_with fail
      refine c15.out.mono ?_
      rintro e w9 ⟨hb9, b9, rfl, h9⟩
      rw [← hplH.out, els_quoted, hea.out] at h9
      have E9 := Lib.hid (below_on E8.out hw2 hb9)
      have c17 := Lib.hid (wild_any av2 n2 cv2 pl w9 hn2H.out (P2.out w9 E9.out) hn2')
      have hwl : Hid (wildB pl = false) := Lib.hid (by rw [← hplH.out]; exact wild_quoted _)
      rw [hwl.out] at c17
      clear hb9 c15
      have hb : Hid (b9 = decide (s = t)) := Lib.hid (by
        cases b9
        · rw [decide_eq_false (fun h => by have := h9.2 h; cases this)]
        · rw [decide_eq_true (h9.1 rfl)])
      have hst : (s.toList == t.toList) = b9 := by
        rw [hb.out, Lib.toList_data, Lib.toList_data, Bool.eq_iff_iff, beq_iff_eq, decide_eq_true_iff, hea.out]
      clear h9 hb
      go_wp2_with fail
      refine c17.out.mono ?_
      rintro e w10 ⟨hb10, rfl⟩
      have E10 := Lib.hid (below_on B2.out hwr (below_on E9.out hw2 hb10))
      clear hb10 c17 hst
      go_wp2_with fail
      go_ret
      exact ⟨rfl, E10.out⟩
end Go.Proofs.Ytlaidmjlgjpgcaa
