/- PatternSplits' walk. Condition: none but the form's own. -/
import Derived.Test.YtlaidmjlgjpgcaaPatZ
import Derived.Lib.IndexBytes
import Derived.Lib.Split
namespace Go.Proofs.Ytlaidmjlgjpgcaa
open Go.RowKit
attribute [local go_sem] Oper.semAt_some

theorem els_map (p : List Ch) (hp : ∀ x ∈ p, bareB x 91 = false) : els p 0 = p.map el1 := by rw [els_plain p hp _ 0 (Nat.le_refl _), List.drop_zero]
theorem els_two {p q : List Ch} (h : ∀ x ∈ p ++ q, bareB x 91 = false) : els (p ++ q) 0 = els p 0 ++ els q 0 := by
  rw [els_map _ h, els_map p (fun x hx => h x (List.mem_append_left _ hx)), els_map q (fun x hx => h x (List.mem_append_right _ hx)), List.map_append]
theorem open_bracket (c : UInt8) (q : Bool) : bareB (c, q) 91 = (c == 91 && !q) := rfl

set_option maxHeartbeats 4000000 in
set_option maxRecDepth 100000 in
theorem patternSplits_walk (ap : Option Addr) (np cp : Nat) (p : List Ch) (aq : Option Addr) (nq cq : Nat) (q : List Ch) (s : ByteArray) (w : World) (hnp : p.length = np) (hPp : ChsAt w.heap.size w ap p) (hnilp : ap = none → cp = 0) (_ : np ≤ maxLen) (szp : np * 2 ≤ reachBytes)
    (hnq : q.length = nq) (hPq : ChsAt w.heap.size w aq q) (hnilq : aq = none → cq = 0) (_ : nq ≤ maxLen) (szq : nq * 2 ≤ reachBytes) (hs : s.size ≤ maxLen) : Calls Try.prog 7 #[.slice ap np cp, .slice aq nq cq, .string s] w (TrueR w) := by
  unfold maxLen at hs
  have hnp1 : np ≤ 140737488355328 := Nat.le_trans (by omega) (Nat.le_trans szp (by decide))
  have hnq1 : nq ≤ 140737488355328 := Nat.le_trans (by omega) (Nat.le_trans szq (by decide))
  have hwr := Nat.le_refl w.heap.size
  have hnpH := Lib.hid hnp
  have hnqH := Lib.hid hnq
  have hPpH : Hid (∀ W, Below w.heap.size w W → ChsAt w.heap.size W ap p) := Lib.hid (fun W hW => hPp.below hW)
  have hPqH : Hid (∀ W, Below w.heap.size w W → ChsAt w.heap.size W aq q) := Lib.hid (fun W hW => hPq.below hW)
  have hnilpH := Lib.hid hnilp
  have hnilqH := Lib.hid hnilq
  clear hnp hPp hnilp hnq hPq hnilq szp szq
  go_enter Try.func7, Try.ntmps7
  go_wp2_with fail
  refine (awake2_any w).mono ?_
  rintro e w1 ⟨rfl, hb1⟩
  have B1 := Lib.hid hb1
  clear hb1
  by_cases h1 : (20 : Int) < (np : Int) + (nq : Int)
  · go_wp2_with fail
    go_ret
    exact ⟨rfl, B1.out⟩
  · by_cases h2 : (20 : Int) < s.size
    · go_wp2_with fail
      go_ret
      exact ⟨rfl, B1.out⟩
    · have hs4 : s.size ≤ 1000000 := by omega
      have hnp4 : np ≤ 20 := by omega
      have hnq4 : nq ≤ 20 := by omega
      have hB1s := B1.out.size
      have hown0 : Hid ((w1.alloc (.cells #[] 33)).ownsRow w1.heap.size 33 2 (.slice (some ⟨w1.heap.size, 0, none⟩) 0 0) ([] : List Ch).length (chv [])) := Lib.hid (World.ownsRow_lit w1 #[] 0 (Nat.le_refl _) (by unfold maxLen; omega) rfl)
      have hP0 : Hid (ChsAt w.heap.size (w1.alloc (.cells #[] 33)) ap p) := Lib.hid (hPpH.out _ (B1.out.alloc hB1s _))
      go_upto_region 6 with (first
        | (at_builtin; refine wpList_append_chs rfl (.tmp 25) (.tmp 26) rfl w1.heap.size _ [] rfl hown0.out ap np cp p rfl hnpH.out hP0.out hnilpH.out (by simp; omega) (by simp) ?_; intro v' w2 own2 hgrow; rw [List.nil_append] at own2; obtain ⟨av2, cv2, rfl, hP2⟩ := own_chs own2; have B2 : Hid (Below w.heap.size w w2) := (Lib.hid ((B1.out.alloc hB1s _).grown hgrow (by simp; omega) (fun q e => by have := (hown0.out.lt q e).1; omega))); have Q2 := hPqH.out w2 B2.out; have hz2 : w1.heap.size ≤ w2.heap.size := (by have := hgrow.size; simp at this; omega))
        | (at_builtin; refine wpList_append_chs rfl (.tmp 27) (.tmp 28) rfl w1.heap.size _ p rfl own2 aq nq cq q rfl hnqH.out Q2 hnilqH.out (by rw [hnpH.out]; omega) hz2 ?_; intro v'' w3 own3 hgrow3; obtain ⟨av3, cv3, rfl, hP3⟩ := own_chs own3))
      have B3 : Hid (Below w.heap.size w w3) := Lib.hid (B2.out.grown hgrow3 (by omega) (fun q e => by have := (own2.lt q e).1; omega))
      obtain ⟨both, hboth⟩ : ∃ both, p ++ q = both := ⟨_, rfl⟩
      rw [hboth] at hP3
      have hbothH := Lib.hid hboth
      have hbl : Hid (both.length = np + nq) := Lib.hid (by rw [← hboth, List.length_append, hnpH.out, hnqH.out])
      obtain ⟨nb, hnb⟩ : ∃ nb, p.length + q.length = nb := ⟨_, rfl⟩
      have hnbH : Hid (both.length = nb) := Lib.hid (by rw [← hboth, List.length_append, hnb])
      have hnb4 : nb ≤ 40 := by have := hbl.out; have := hnbH.out; omega
      rw [hnb]
      have hP3H : Hid (∀ W, Below w3.heap.size w3 W → ChsAt W.heap.size W av3 both) := Lib.hid (fun W hW => (hP3.below hW).mono hW.size)
      have hw3 := Nat.le_refl w3.heap.size
      clear own2 hgrow hP2 hown0 hP0 own3 hgrow3 hP3 Q2 hboth hnb hz2
      go_wp2_with fail
      go_loopw [32] (fun s32 wr => ∃ k : Nat, k ≤ nb ∧ s32 = .int .i64 k ∧ Hid (∀ x ∈ both.take k, bareB x 91 = false) ∧ Hid (Below w3.heap.size w3 wr)) (fun s32 _ => nb - (intOf s32).toNat)
      case atStart => exact ⟨0, Nat.zero_le _, rfl, Lib.hid (fun x hx => by simp at hx), Lib.hid (Below.refl _ _)⟩
      case round =>
        obtain ⟨k, hk, rfl, hno, hB⟩ := hrel
        by_cases hlt : k < nb
        · have hlt' : (k : Int) < (nb : Int) := by omega
          obtain ⟨x, hx⟩ : ∃ x, both[k]? = some x := ⟨_, List.getElem?_eq_getElem (by rw [hnbH.out]; exact hlt)⟩
          obtain ⟨g, off, rfl, hg, c0, c1⟩ := hP3H.out wr hB.out k x hx
          have hxH := Lib.hid hx
          have htk : Hid (both.take (k + 1) = both.take k ++ [x]) := Lib.hid (by rw [List.take_add_one, hx]; rfl)
          obtain ⟨c, qq⟩ := x
          clear hx
          by_cases h91 : c = 91
          · have e91 : ((c.toNat : Int) == 91) = true := by rw [h91]; rfl
            have hcn : (c.toNat : Int) = 91 := by rw [h91]; rfl
            cases qq
            · go_wp2_with fail
              go_ret
              exact ⟨rfl, below_on B3.out hwr (hB.out.alloc hB.out.size _)⟩
            · have hnb91 : Hid (bareB (c, true) 91 = false) := Lib.hid (by rw [open_bracket]; simp)
              go_wp2_with fail
              go_roundw
              case rel => exact ⟨k + 1, by omega, by go_num, Lib.hid (fun x hx => by
                rw [htk.out] at hx
                rcases List.mem_append.1 hx with g | g
                · exact hno.out x g
                · rw [List.mem_singleton.1 g]; exact hnb91.out), Lib.hid (hB.out.alloc hB.out.size _)⟩
              case measure => simp [intOf]; omega
          · have e91 : ((c.toNat : Int) == 91) = false := beq_eq_false_iff_ne.2 (fun e => h91 (UInt8.toNat_inj.1 (by show c.toNat = 91; omega)))
            have hnb91 : Hid (bareB (c, qq) 91 = false) := Lib.hid (by rw [open_bracket, beq_eq_false_iff_ne.2 h91]; rfl)
            clear h91
            go_wp2_with fail
            go_roundw
            case rel => exact ⟨k + 1, by omega, by go_num, Lib.hid (fun x hx => by
              rw [htk.out] at hx
              rcases List.mem_append.1 hx with g | g
              · exact hno.out x g
              · rw [List.mem_singleton.1 g]; exact hnb91.out), Lib.hid (hB.out.alloc hB.out.size _)⟩
            case measure => simp [intOf]; omega
        · have hlt' : ¬ (k : Int) < (nb : Int) := by omega
          have hall : Hid (∀ x ∈ p ++ q, bareB x 91 = false) := Lib.hid (fun x hx => hno.out x (by rw [hbothH.out] at hx; rwa [List.take_of_length_le (by rw [hnbH.out]; omega)]))
          have htwo : Hid (els both 0 = els p 0 ++ els q 0) := Lib.hid (by rw [← hbothH.out]; exact els_two hall.out)
          have Pp : Hid (∀ W, Below w3.heap.size w3 W → ChsAt W.heap.size W ap p) := Lib.hid (fun W hW => by
            have h := below_on B3.out hwr hW
            exact (hPpH.out W h).mono h.size)
          have Pq : Hid (∀ W, Below w3.heap.size w3 W → ChsAt W.heap.size W aq q) := Lib.hid (fun W hW => by
            have h := below_on B3.out hwr hW
            exact (hPqH.out W h).mono h.size)
          go_wp2_with fail
          go_loopw [10, 11] (fun s10 s11 wr => ∃ (i : Nat) (fd : Bool), i ≤ s.size + 1 ∧ s11 = .int .i64 i ∧ s10 = .bool fd ∧ Hid (fd = true ↔ ∃ j, j < i ∧ Mat (els p 0) (s.data.toList.take j) ∧ Mat (els q 0) (s.data.toList.drop j)) ∧ Hid (Below w3.heap.size w3 wr)) (fun _ s11 _ => s.size + 1 - (intOf s11).toNat)
          case atStart => exact ⟨0, false, Nat.zero_le _, rfl, rfl, Lib.hid ⟨(fun h => by cases h), fun ⟨j, hj, _⟩ => by omega⟩, hB⟩
          case round =>
            obtain ⟨i, fd, hi, rfl, rfl, hfd, hBx⟩ := hrel
            by_cases hil : i ≤ s.size
            · have hil' : (i : Int) ≤ (s.size : Int) := by omega
              cases fd
              · have hfdn : Hid (¬ ∃ j, j < i ∧ Mat (els p 0) (s.data.toList.take j) ∧ Mat (els q 0) (s.data.toList.drop j)) := Lib.hid (fun h => by have := hfd.out.2 h; cases this)
                have m1 := Lib.hid (match_any ap np cp p (s.extract 0 i) wr hnpH.out (Pp.out wr hBx.out) (by omega) (Nat.le_trans (by rw [ByteArray.size_extract]; omega) hs4))
                go_wp2_with fail
                refine m1.out.mono ?_
                rintro e w4 ⟨hb4, b4, rfl, h4⟩
                rw [Lib.extract_from_zero] at h4
                have B4 := Lib.hid (below_on hBx.out hw3 hb4)
                have h4H := Lib.hid h4
                clear hb4 h4 m1
                cases b4
                · have hno4 : Hid (¬ Mat (els p 0) (s.data.toList.take i)) := Lib.hid (fun h => by have := h4H.out.2 h; cases this)
                  go_wp2_with fail
                  go_roundw
                  case rel => exact ⟨i + 1, false, by omega, by go_num, rfl, Lib.hid ⟨(fun h => by cases h), fun ⟨j, hj, g1, g2⟩ => by
                    by_cases h : j = i
                    · subst h; exact absurd g1 hno4.out
                    · exact absurd ⟨j, by omega, g1, g2⟩ hfdn.out⟩, B4⟩
                  case measure => simp [intOf]; omega
                · have hyes4 : Hid (Mat (els p 0) (s.data.toList.take i)) := Lib.hid (h4H.out.1 rfl)
                  have m2 := Lib.hid (match_any aq nq cq q (s.extract i s.size) w4 hnqH.out (Pq.out w4 B4.out) (by omega) (Nat.le_trans (by rw [ByteArray.size_extract]; omega) hs4))
                  go_wp2_with fail
                  refine m2.out.mono ?_
                  rintro e w5 ⟨hb5, b5, rfl, h5⟩
                  rw [Lib.extract_to_end] at h5
                  have B5 := Lib.hid (below_on B4.out hw3 hb5)
                  have h5H := Lib.hid h5
                  clear hb5 h5 m2
                  go_wp2_with fail
                  go_roundw
                  case rel => exact ⟨i + 1, b5, by omega, by go_num, rfl, Lib.hid ⟨(fun h => ⟨i, by omega, hyes4.out, h5H.out.1 h⟩), fun ⟨j, hj, g1, g2⟩ => by
                    by_cases h : j = i
                    · subst h; exact h5H.out.2 g2
                    · exact absurd ⟨j, by omega, g1, g2⟩ hfdn.out⟩, B5⟩
                  case measure => simp [intOf]; omega
              · have hfdy : Hid (∃ j, j < i ∧ Mat (els p 0) (s.data.toList.take j) ∧ Mat (els q 0) (s.data.toList.drop j)) := Lib.hid (hfd.out.1 rfl)
                go_wp2_with fail
                go_roundw
                case rel => exact ⟨i + 1, true, by omega, by go_num, rfl, Lib.hid ⟨(fun _ => by obtain ⟨j, hj, g⟩ := hfdy.out; exact ⟨j, by omega, g⟩), fun _ => rfl⟩, hBx⟩
                case measure => simp [intOf]; omega
            · have hil' : ¬ (i : Int) ≤ (s.size : Int) := by omega
              have m3 := Lib.hid (match_any av3 nb cv3 both s wr hnbH.out (hP3H.out wr hBx.out) (by omega) hs4)
              go_wp2_with fail
              refine m3.out.mono ?_
              rintro e w6 ⟨hb6, b6, rfl, h6⟩
              rw [htwo.out, mat_append] at h6
              obtain rfl : b6 = fd := by
                rw [Bool.eq_iff_iff]
                refine h6.trans (Iff.trans ⟨?_, ?_⟩ hfd.out.symm)
                · rintro ⟨j, hj, g⟩
                  exact ⟨j, by have e : s.data.toList.length = s.size := rfl; omega, g⟩
                · rintro ⟨j, hj, g⟩
                  exact ⟨j, by have e : s.data.toList.length = s.size := rfl; omega, g⟩
              have B6 := Lib.hid (below_on B3.out hwr (below_on hBx.out hw3 hb6))
              clear hb6 h6 m3
              go_wp2_with fail
              go_ret
              exact ⟨rfl, B6.out⟩
end Go.Proofs.Ytlaidmjlgjpgcaa
