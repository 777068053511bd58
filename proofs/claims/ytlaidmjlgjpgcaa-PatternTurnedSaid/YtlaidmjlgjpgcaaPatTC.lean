/- PatternTurned's walk. Condition: none but the form's own. -/
import Derived.Test.YtlaidmjlgjpgcaaPatTB
namespace Go.Proofs.Ytlaidmjlgjpgcaa
open Go.RowKit
attribute [local go_sem] Oper.semAt_some

theorem gotAny (w : World) : Calls Try.prog 23 #[.string ⟨#[63]⟩] w (GotR [(63, false)] w) := by
  have h := got_of ⟨#[63]⟩ w (by decide)
  rwa [show ofL (⟨#[63]⟩ : ByteArray).data.toList = [(63, false)] from rfl] at h
theorem of_br1 (m : ByteArray) (h : ∀ c ∈ m.data.toList, c ≠ 92) : ofL ((⟨#[91]⟩ ++ m ++ ⟨#[93]⟩ : ByteArray).data.toList) = (91, false) :: restL m.data.toList := by
  have e : (⟨#[91]⟩ ++ m ++ ⟨#[93]⟩ : ByteArray).data.toList = 91 :: (m.data.toList ++ [93]) := by simp
  rw [e, ofL_plain (by decide), ofL_bare _ (fun c hc => by
    rcases List.mem_append.1 hc with g | g
    · exact h c g
    · rw [List.mem_singleton.1 g]; decide)]
  unfold restL bareL
  rw [List.map_append]; rfl
theorem of_br2 (m : ByteArray) (h : ∀ c ∈ m.data.toList, c ≠ 92) : ofL ((⟨#[91, 33]⟩ ++ m ++ ⟨#[93]⟩ : ByteArray).data.toList) = (91, false) :: (33, false) :: restL m.data.toList := by
  have e : (⟨#[91, 33]⟩ ++ m ++ ⟨#[93]⟩ : ByteArray).data.toList = 91 :: 33 :: (m.data.toList ++ [93]) := by simp
  rw [e, ofL_plain (by decide), ofL_plain (by decide), ofL_bare _ (fun c hc => by
    rcases List.mem_append.1 hc with g | g
    · exact h c g
    · rw [List.mem_singleton.1 g]; decide)]
  unfold restL bareL
  rw [List.map_append]; rfl

set_option maxHeartbeats 2000000 in
set_option maxRecDepth 100000 in
theorem patternTurned_walk (m : ByteArray) (c : UInt8) (w : World) (hm : m.size ≤ maxLen) : Calls Try.prog 8 #[.string m, .int .u8 (c.toNat : Int)] w (TrueR w) := by
  unfold maxLen at hm
  have hwr := Nat.le_refl w.heap.size
  have hml : Hid (m.data.toList.length = m.size) := Lib.hid rfl
  go_enter Try.func8, Try.ntmps8
  go_wp2_with fail
  refine (awake2_any w).mono ?_
  rintro e w1 ⟨rfl, hb1⟩
  have B1 := Lib.hid hb1
  clear hb1
  by_cases h0 : m.size = 0
  · have hem : m.toList = [] := by
      rw [Lib.toList_data]
      exact List.eq_nil_of_length_eq_zero h0
    go_wp2_with fail
    go_ret
    exact ⟨rfl, B1.out⟩
  · have hne : Hid (m.data.toList ≠ []) := Lib.hid (fun e => h0 (by rw [← hml.out, e]; rfl))
    have hem : (m.toList == []) = false := by
      rw [Lib.toList_data, beq_eq_false_iff_ne]; exact hne.out
    have hem2 : ¬ m.toList = [] := by rw [Lib.toList_data]; exact hne.out
    have hpos : 0 < m.size := by omega
    by_cases h2 : (20 : Int) < m.size
    · go_wp2_with fail
      go_ret
      exact ⟨rfl, B1.out⟩
    · obtain ⟨c0, hc0⟩ : ∃ c, m[0] = c := ⟨_, rfl⟩
      have hc0L : Hid (m.data.toList[0]? = some c0) := Lib.hid (by rw [← hc0]; exact List.getElem?_eq_getElem hpos)
      by_cases h33 : c0 = 33
      · have e33 : ((c0.toNat : Int) == 33) = true := by rw [h33]; rfl
        clear h33
        go_wp2_with fail
        go_ret
        exact ⟨rfl, B1.out⟩
      · have e33 : ((c0.toNat : Int) == 33) = false := beq_eq_false_iff_ne.2 (fun e => h33 (UInt8.toNat_inj.1 (by show c0.toNat = 33; omega)))
        have h33H : Hid (m.data.toList[0]? ≠ some 33) := Lib.hid (by rw [hc0L.out]; exact fun e => h33 (Option.some.inj e))
        clear h33
        obtain ⟨W2, hW2⟩ : ∃ W2, w1.alloc (.cells #[.int .u8 (c.toNat : Int)] 5) = W2 := ⟨_, rfl⟩
        have hB2 : Hid (Below w.heap.size w W2) := Lib.hid (by rw [← hW2]; exact B1.out.alloc B1.out.size _)
        have hcv : Hid (Sem.run Try.prog (convert 35 9 (.slice (some ⟨w1.heap.size, 0, none⟩) 1 1)) W2 = .ok (.string ⟨#[c]⟩) W2) := Lib.hid (by
          have hb : Blk W2 w1.heap.size 5 #[.int .u8 (c.toNat : Int)] := by rw [← hW2]; exact Blk.new _ _ _
          refine run_convert_bytes_back (P := Try.prog) W2 35 9 5 ⟨w1.heap.size, 0, none⟩ 1 [c] Try.underlying35 Try.underlying5 Try.underlying9 (fun j hj => ?_)
          obtain rfl : j = 0 := by simpa using hj
          exact hb.cell 0)
        have hW2H := Lib.hid hW2
        obtain ⟨one, hone⟩ : ∃ one : ByteArray, (⟨#[c]⟩ : ByteArray) = one := ⟨_, rfl⟩
        rw [hone] at hcv
        have honeL : Hid (one.data.toList = [c]) := Lib.hid (by rw [← hone])
        have hones : one.size = 1 := by rw [← hone]; rfl
        have hw2 := Nat.le_refl W2.heap.size
        clear hW2 hone
        go_wp2_with fail
        go_loop [5] (fun s5 => ∃ i : Nat, i ≤ m.size ∧ s5 = .int .i64 i ∧ Hid (∀ c ∈ m.data.toList.take i, c ≠ 91 ∧ c ≠ 93 ∧ c ≠ 92)) (fun s5 => m.size - (intOf s5).toNat)
        case atStart => exact ⟨0, Nat.zero_le _, rfl, Lib.hid (fun c hc => by simp at hc)⟩
        case round =>
          obtain ⟨i, hi, rfl, hno⟩ := hrel
          clear hem hem2 e33 hc0
          by_cases hlt : i < m.size
          · have hlt' : (i : Int) < (m.size : Int) := by omega
            have hi0 : (0 : Int) ≤ (i : Int) := by omega
            obtain ⟨d, hd⟩ : ∃ d, m[i] = d := ⟨_, rfl⟩
            have htk : Hid (m.data.toList.take (i + 1) = m.data.toList.take i ++ [d]) := Lib.hid (by
              rw [List.take_add_one, show m.data.toList[i]? = some d by rw [← hd]; exact List.getElem?_eq_getElem hlt]; rfl)
            obtain ⟨dn, hdn⟩ : ∃ dn, d.toNat = dn := ⟨_, rfl⟩
            have hdv : Hid (∀ b : UInt8, dn ≠ b.toNat → d ≠ b) := Lib.hid (fun b h e => h (by rw [← hdn, e]))
            by_cases g1 : dn = 91
            · have f1 : ((dn : Int) == 91) = true := by rw [g1]; rfl
              clear g1
              go_wp2_with fail
              go_ret
              exact ⟨rfl, B1.out⟩
            · have f1 : ((dn : Int) == 91) = false := beq_eq_false_iff_ne.2 (by omega)
              by_cases g2 : dn = 93
              · have f2 : ((dn : Int) == 93) = true := by rw [g2]; rfl
                clear g1 g2
                go_wp2_with fail
                go_ret
                exact ⟨rfl, B1.out⟩
              · have f2 : ((dn : Int) == 93) = false := beq_eq_false_iff_ne.2 (by omega)
                by_cases g3 : dn = 92
                · have f3 : ((dn : Int) == 92) = true := by rw [g3]; rfl
                  clear g1 g2 g3
                  go_wp2_with fail
                  go_ret
                  exact ⟨rfl, B1.out⟩
                · have f3 : ((dn : Int) == 92) = false := beq_eq_false_iff_ne.2 (by omega)
                  have hall := Lib.hid (And.intro (hdv.out 91 g1) (And.intro (hdv.out 93 g2) (hdv.out 92 g3)))
                  clear g1 g2 g3
                  go_wp2_with fail
                  go_round
                  case rel => exact ⟨i + 1, by omega, by go_num, Lib.hid (fun x hx => by
                    rw [htk.out] at hx
                    rcases List.mem_append.1 hx with g | g
                    · exact hno.out x g
                    · rw [List.mem_singleton.1 g]; exact hall.out)⟩
                  case measure => simp [intOf]; omega
          · have hlt' : ¬ (i : Int) < (m.size : Int) := by omega
            have hall : Hid (∀ c ∈ m.data.toList, c ≠ 91 ∧ c ≠ 93 ∧ c ≠ 92) := Lib.hid (fun c hc => hno.out c (by rwa [List.take_of_length_le (by rw [hml.out]; omega)]))
            obtain ⟨T1, hT1⟩ : ∃ T1 : ByteArray, ⟨#[91]⟩ ++ m ++ ⟨#[93]⟩ = T1 := ⟨_, rfl⟩
            obtain ⟨T2, hT2⟩ : ∃ T2 : ByteArray, ⟨#[91, 33]⟩ ++ m ++ ⟨#[93]⟩ = T2 := ⟨_, rfl⟩
            obtain ⟨T3, hT3⟩ : ∃ T3 : ByteArray, one ++ one = T3 := ⟨_, rfl⟩
            have hT1s : T1.size ≤ 100 := by rw [← hT1]; simp; show 1 + m.size + 1 ≤ 100; omega
            have hT2s : T2.size ≤ 100 := by rw [← hT2]; simp; show 2 + m.size + 1 ≤ 100; omega
            have hT3L : Hid (T3.data.toList = [c, c]) := Lib.hid (by rw [← hT3]; simp [honeL.out])
            have hT3s : T3.size ≤ 2 := by rw [← hT3]; simp; omega
            obtain ⟨p1, hp1⟩ : ∃ p1, (91, false) :: restL m.data.toList = p1 := ⟨_, rfl⟩
            obtain ⟨p2, hp2⟩ : ∃ p2, (91, false) :: (33, false) :: restL m.data.toList = p2 := ⟨_, rfl⟩
            have c1 : Hid (∀ W, Calls Try.prog 23 #[.string T1] W (GotR p1 W)) := Lib.hid (fun W => by
              have h := got_of T1 W (by omega)
              rwa [← hT1, of_br1 m (fun c hc => (hall.out c hc).2.2), hT1, hp1] at h)
            have c2 : Hid (∀ W, Calls Try.prog 23 #[.string T2] W (GotR p2 W)) := Lib.hid (fun W => by
              have h := got_of T2 W (by omega)
              rwa [← hT2, of_br2 m (fun c hc => (hall.out c hc).2.2), hT2, hp2] at h)
            have hl1 : Hid (p1.length ≤ 1000000) := Lib.hid (by rw [← hp1, List.length_cons, restL_len, hml.out]; omega)
            have hl2 : Hid (p2.length ≤ 1000000) := Lib.hid (by rw [← hp2, List.length_cons, List.length_cons, restL_len, hml.out]; omega)
            have hturn : Hid (Mat (els p2 0) [c] ↔ ¬ Mat (els p1 0) [c]) := Lib.hid (by
              rw [← hp1, ← hp2]
              exact turned (fun c hc => (hall.out c hc).1) (fun c hc => (hall.out c hc).2.1) hne.out h33H.out c)
            have hcv' := hcv.out
            have hw2' := hW2H.out
            clear hp1 hp2 hno hlt
            go_wp2_with fail
            refine (c1.out W2).mono ?_
            rintro e w3 ⟨hb3, a3, v3, rfl, hP3⟩
            have E3 := Lib.hid hb3
            have k3 := Lib.hid (match_any a3 _ v3 p1 one w3 rfl hP3 hl1.out (by omega))
            clear hb3 hP3 hcv' hw2'
            go_wp2_with fail
            refine k3.out.mono ?_
            rintro e w4 ⟨hb4, b4, rfl, h4⟩
            rw [honeL.out] at h4
            have h4H := Lib.hid h4
            have E4 := Lib.hid (below_on E3.out hw2 hb4)
            clear hb4 h4 k3
            go_wp2_with fail
            refine (c2.out w4).mono ?_
            rintro e w5 ⟨hb5, a5, v5, rfl, hP5⟩
            have E5 := Lib.hid (below_on E4.out hw2 hb5)
            have k5 := Lib.hid (match_any a5 _ v5 p2 one w5 rfl hP5 hl2.out (by omega))
            clear hb5 hP5
            go_wp2_with fail
            refine k5.out.mono ?_
            rintro e w6 ⟨hb6', b6, rfl, h6⟩
            rw [honeL.out] at h6
            have hb6 : b6 = !b4 := by
              have h : b6 = true ↔ ¬ b4 = true := h6.trans (hturn.out.trans (not_congr h4H.out.symm))
              revert h
              cases b4 <;> cases b6 <;> simp
            have E6 := Lib.hid (below_on E5.out hw2 hb6')
            clear hb6' h6 k5 h4H
            subst hb6
            cases b4
            all_goals
              go_wp2_with fail
              refine (gotAny w6).mono ?_
              rintro e w7 ⟨hb7, a7, v7, rfl, hP7⟩
              have E7 := Lib.hid (below_on E6.out hw2 hb7)
              have k7 := Lib.hid (match_any a7 _ v7 [(63, false)] one w7 rfl hP7 (by decide) (by omega))
              clear hb7 hP7
              go_wp2_with fail
              refine k7.out.mono ?_
              rintro e w8 ⟨hb8, b8, rfl, h8⟩
              obtain rfl : b8 = true := h8.2 (by rw [honeL.out]; exact any_one c)
              have E8 := Lib.hid (below_on E7.out hw2 hb8)
              clear hb8 h8 k7
              go_wp2_with fail
              refine (gotAny w8).mono ?_
              rintro e w9 ⟨hb9, a9, v9, rfl, hP9⟩
              have E9 := Lib.hid (below_on E8.out hw2 hb9)
              have k9 := Lib.hid (match_any a9 _ v9 [(63, false)] T3 w9 rfl hP9 (by decide) (by omega))
              clear hb9 hP9
              go_wp2_with fail
              refine k9.out.mono ?_
              rintro e w10 ⟨hb10, b10, rfl, h10⟩
              obtain rfl : b10 = false := by
                cases b10
                · rfl
                · exact absurd (h10.1 rfl) (by rw [hT3L.out]; exact any_two c)
              have E10 := Lib.hid (below_on E9.out hw2 hb10)
              clear hb10 h10 k9
              go_wp2_with fail
              refine (gotAny w10).mono ?_
              rintro e w11 ⟨hb11, a11, v11, rfl, hP11⟩
              have E11 := Lib.hid (below_on E10.out hw2 hb11)
              have k11 := Lib.hid (match_any a11 _ v11 [(63, false)] ⟨#[]⟩ w11 rfl hP11 (by decide) (by decide))
              clear hb11 hP11
              go_wp2_with fail
              refine k11.out.mono ?_
              rintro e w12 ⟨hb12, b12, rfl, h12⟩
              obtain rfl : b12 = false := by
                cases b12
                · rfl
                · exact absurd (h12.1 rfl) any_none
              have E12 := Lib.hid (below_on hB2.out hwr (below_on E11.out hw2 hb12))
              clear hb12 h12 k11
              go_wp2_with fail
              go_ret
              exact ⟨rfl, E12.out⟩
theorem patternTurned_w (m : ByteArray) (z : Int) (w : World) (hm : m.size ≤ maxLen) (hz : (Lit.int .u8 z).wf = true) : Calls Try.prog 8 #[.string m, .int .u8 z] w (TrueR w) := by
  have hz1 : (0 : Int) ≤ z ∧ z ≤ 255 := by
    rw [Lit.wf, Bool.and_eq_true, decide_eq_true_iff, decide_eq_true_iff] at hz
    exact hz
  have e : (((UInt8.ofNat z.toNat).toNat : Nat) : Int) = z := by
    rw [UInt8.toNat_ofNat', Nat.mod_eq_of_lt (by omega)]; omega
  have h := patternTurned_walk m (UInt8.ofNat z.toNat) w hm
  rwa [e] at h
end Go.Proofs.Ytlaidmjlgjpgcaa
