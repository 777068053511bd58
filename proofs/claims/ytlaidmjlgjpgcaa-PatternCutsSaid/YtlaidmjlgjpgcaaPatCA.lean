/- The reference's Cut; PatternCuts' walk. Condition: none but the form's own. -/
import Derived.Test.YtlaidmjlgjpgcaaPatZ
import Derived.Lib.IndexBytes
namespace Go.Proofs.Ytlaidmjlgjpgcaa
open Go.RowKit
attribute [local go_sem] Oper.semAt_some

set_option maxHeartbeats 2000000 in
set_option maxRecDepth 100000 in
theorem refCut_any (av : Option Addr) (n cv : Nat) (p : List Ch) (s : ByteArray) (en lo : Bool) (w : World) (hn : p.length = n) (hP : ChsAt w.heap.size w av p) (hn2 : n ≤ 1000000) (hs : s.size ≤ 1000000) :
    Calls Try.prog 21 #[.slice av n cv, .string s, .bool en, .bool lo] w (CutR p s en lo w) := by
  have hnH := Lib.hid hn
  have hPH : Hid (∀ W, Below w.heap.size w W → ChsAt W.heap.size W av p) := Lib.hid (fun W hW => (hP.below hW).mono hW.size)
  have hwr := Nat.le_refl w.heap.size
  clear hn hP
  go_enter Try.func21, Try.ntmps21
  go_wp2_with fail
  go_loopw [9] (fun s9 wr => ∃ i : Nat, i ≤ s.size + 1 ∧ s9 = .int .i64 i ∧ Hid (∀ j, j < i → ¬ MatB p (tak s en (lenAt s.size lo j))) ∧ Hid (Below w.heap.size w wr)) (fun s9 _ => s.size + 1 - (intOf s9).toNat)
  case atStart => exact ⟨0, Nat.zero_le _, rfl, Lib.hid (fun j hj => by omega), Lib.hid (Below.refl _ _)⟩
  case round =>
    obtain ⟨i, hi, rfl, hno, hB⟩ := hrel
    by_cases hlt : i ≤ s.size
    · have hlt' : (i : Int) ≤ (s.size : Int) := by omega
      obtain ⟨m, hm⟩ : ∃ m, lenAt s.size lo i = m := ⟨_, rfl⟩
      have hmH := Lib.hid hm
      have hms : m ≤ s.size := by rw [← hm]; exact lenAt_le hlt
      have hmv : Hid (m = bif lo then s.size - i else i) := Lib.hid hm.symm
      clear hm
      go_upto_if 18 with fail
      go_cut [10] (fun s10 wx => s10 = .int .i64 (m : Int) ∧ wr = wx)
      case first =>
        cases lo
        · go_wp2_with fail
          go_meet
          exact ⟨by rw [hmv.out]; rfl, rfl⟩
        · go_wp2_with fail
          go_meet
          exact ⟨by rw [hmv.out]; show Value.int .i64 _ = Value.int .i64 ((s.size - i : Nat) : Int); rw [show ((s.size - i : Nat) : Int) = (s.size : Int) - (i : Int) by omega], rfl⟩
      case rest =>
        obtain ⟨rfl, rfl⟩ := hcut
        have hmI : (m : Int) ≤ (s.size : Int) := by omega
        have hsub : (s.size : Int) - (m : Int) = ((s.size - m : Nat) : Int) := by omega
        have hs1 : ((s.size - m : Nat) : Int) ≤ (s.size : Int) := by omega
        cases en
        · have c16 := Lib.hid (refMatch_any av n cv p (s.extract 0 m) wr hnH.out (hPH.out wr hB.out) hn2 (Nat.le_trans (tak_size s false m) hs))
          clear hsub hs1
          go_wp2_with fail
          refine c16.out.mono ?_
          rintro e w2 ⟨hb2, b, rfl, hb⟩
          have hbH : Hid (b = true ↔ MatB p (tak s false m)) := Lib.hid hb
          have B2 := Lib.hid (below_on hB.out hwr hb2)
          clear hb hb2 c16
          cases b
          · go_wp2_with fail
            go_roundw
            case rel => exact ⟨i + 1, by omega, by go_num, Lib.hid (fun j hj => by
              by_cases h : j = i
              · subst h; rw [hmH.out]; exact fun g => by have := hbH.out.2 g; cases this
              · exact hno.out j (by omega)), B2⟩
            case measure => simp [intOf]; omega
          · go_wp2_with fail
            go_ret
            exact ⟨B2.out, _, rfl, .inl ⟨i, hlt, by rw [hmH.out]; exact hbH.out.1 (by simp), hno.out, by rw [hmH.out]; rfl⟩⟩
        · have c16 := Lib.hid (refMatch_any av n cv p (s.extract (s.size - m) s.size) wr hnH.out (hPH.out wr hB.out) hn2 (Nat.le_trans (tak_size s true m) hs))
          go_wp2_with fail
          refine c16.out.mono ?_
          rintro e w2 ⟨hb2, b, rfl, hb⟩
          have hbH : Hid (b = true ↔ MatB p (tak s true m)) := Lib.hid hb
          have B2 := Lib.hid (below_on hB.out hwr hb2)
          clear hb hb2 c16
          cases b
          · go_wp2_with fail
            go_roundw
            case rel => exact ⟨i + 1, by omega, by go_num, Lib.hid (fun j hj => by
              by_cases h : j = i
              · subst h; rw [hmH.out]; exact fun g => by have := hbH.out.2 g; cases this
              · exact hno.out j (by omega)), B2⟩
            case measure => simp [intOf]; omega
          · go_wp2_with fail
            go_ret
            exact ⟨B2.out, _, rfl, .inl ⟨i, hlt, by rw [hmH.out]; exact hbH.out.1 (by simp), hno.out, by rw [hmH.out]; rfl⟩⟩
    · have hlt' : ¬ (i : Int) ≤ (s.size : Int) := by omega
      go_wp2_with fail
      go_ret
      exact ⟨hB.out, _, rfl, .inr ⟨fun j hj => hno.out j (by omega), rfl⟩⟩

theorem ex_all (t : ByteArray) : t.extract 0 t.size = t := by
  apply ByteArray.ext
  apply Array.toList_inj.1
  rw [Lib.extract_to_end, List.drop_zero]
/-- What is left and what was taken are the text. -/
theorem cutP_parts {M : ByteArray → Prop} {s t : ByteArray} {en lo : Bool} (h : CutP M s en lo t) : t.size ≤ s.size ∧ (bif en then t = s.extract 0 t.size ∧ (t = s ∨ M (s.extract t.size s.size)) else t = s.extract (s.size - t.size) s.size ∧ (t = s ∨ M (s.extract 0 (s.size - t.size)))) := by
  rcases h with ⟨j, hj, hM, _, ht⟩ | ⟨_, ht⟩
  · have hk := lenAt_le (n := s.size) (lo := lo) hj
    generalize lenAt s.size lo j = k at *
    cases en
    · have hts : t.size = s.size - k := by rw [ht]; show (s.extract k s.size).size = _; rw [ByteArray.size_extract]; omega
      refine ⟨by omega, ?_, .inr ?_⟩
      · rw [hts, show s.size - (s.size - k) = k by omega]; exact ht
      · rw [hts, show s.size - (s.size - k) = k by omega]; exact hM
    · have hts : t.size = s.size - k := by rw [ht]; show (s.extract 0 (s.size - k)).size = _; rw [ByteArray.size_extract]; omega
      refine ⟨by omega, ?_, .inr ?_⟩
      · rw [hts]; exact ht
      · rw [hts]; exact hM
  · subst ht
    refine ⟨Nat.le_refl _, ?_⟩
    cases en
    · exact ⟨by rw [Nat.sub_self, ex_all], .inl rfl⟩
    · exact ⟨by rw [ex_all], .inl rfl⟩

set_option maxHeartbeats 2000000 in
set_option maxRecDepth 100000 in
theorem patternCuts_walk (av : Option Addr) (n cv : Nat) (p : List Ch) (s : ByteArray) (e0 e1 : Bool) (w : World) (hn : p.length = n) (hP : ChsAt w.heap.size w av p) (hn63 : n ≤ maxLen) (hs : s.size ≤ maxLen) : Calls Try.prog 4 #[.slice av n cv, .string s, .agg #[.bool e0, .bool e1]] w (TrueR w) := by
  unfold maxLen at hs hn63
  have hnH := Lib.hid hn
  obtain ⟨b, hb⟩ : ∃ b, w.heap.size = b := ⟨_, rfl⟩
  obtain ⟨W0, hW0⟩ : ∃ W0, w.alloc (.cells #[.bool e0, .bool e1] 27) = W0 := ⟨_, rfl⟩
  have hB0 : Hid (Below w.heap.size w W0) := Lib.hid (by rw [← hW0]; exact (Below.refl _ _).alloc (Nat.le_refl _) _)
  have hwr := Nat.le_refl w.heap.size
  have hw0 := Nat.le_refl W0.heap.size
  have hbk : Blk W0 b 27 #[.bool e0, .bool e1] := by rw [← hW0, ← hb]; exact Blk.new _ _ _
  have hC : Hid (∀ W, Below W0.heap.size W0 W → W.cell? ⟨b, 0, none⟩ = some (.bool e0) ∧ W.cell? ⟨b, 1, none⟩ = some (.bool e1)) := Lib.hid (fun W hW => by
    have h : Blk W b 27 #[.bool e0, .bool e1] := (hW.block b hbk.lt).trans hbk
    exact ⟨h.cell 0, h.cell 1⟩)
  have hPH : Hid (∀ W, Below W0.heap.size W0 W → ChsAt W.heap.size W av p) := Lib.hid (fun W hW => by
    have h := below_on hB0.out hwr hW
    exact (hP.below h).mono h.size)
  have hbH := Lib.hid hb
  have hWH := Lib.hid hW0
  clear hn hP hW0 hbk hb
  go_enter Try.func4, Try.ntmps4
  go_upto_region 1 with fail
  rw [hWH.out, hbH.out]
  go_wp2_with fail
  refine (awake2_any W0).mono ?_
  rintro e w1 ⟨rfl, hb1⟩
  have B1 := Lib.hid hb1
  clear hb1
  by_cases h1 : (60 : Int) < n
  · go_wp2_with fail
    go_ret
    exact ⟨rfl, below_on hB0.out hwr B1.out⟩
  · by_cases h2 : (60 : Int) < s.size
    · go_wp2_with fail
      go_ret
      exact ⟨rfl, below_on hB0.out hwr B1.out⟩
    · have hs4 : s.size ≤ 1000000 := by omega
      have hn4 : n ≤ 1000000 := by omega
      obtain ⟨d0, d1⟩ := hC.out w1 B1.out
      have c20 := Lib.hid (cut_any av n cv p s e0 e1 w1 hnH.out (hPH.out w1 B1.out) hn4 hs4)
      go_wp2_with fail
      refine c20.out.mono ?_
      rintro e w2 ⟨hb2, t, rfl, ht⟩
      have B2 := Lib.hid (below_on B1.out hw0 hb2)
      have htH := Lib.hid ht
      clear hb2 ht c20 d0 d1
      obtain ⟨d0, d1⟩ := hC.out w2 B2.out
      have c21 := Lib.hid (refCut_any av n cv p s e0 e1 w2 hnH.out (hPH.out w2 B2.out) hn4 hs4)
      go_wp2_with fail
      refine c21.out.mono ?_
      rintro e w3 ⟨hb3, t', rfl, ht'⟩
      obtain rfl : t = t' := htH.out.unique ht'
      have B3 := Lib.hid (below_on B2.out hw0 hb3)
      have hparts := Lib.hid (cutP_parts ht')
      clear hb3 ht' c21 d0 d1
      obtain ⟨d0, d1⟩ := hC.out w3 B3.out
      have hts : t.size ≤ s.size := hparts.out.1
      have hts' : ¬ (s.size : Int) < (t.size : Int) := by omega
      have htsI : (t.size : Int) ≤ (s.size : Int) := by omega
      obtain ⟨bs, hbs⟩ : ∃ bs, (t.toList == s.toList) = bs := ⟨_, rfl⟩
      have hbsH : Hid (bs = false → t ≠ s) := Lib.hid (fun h e => by rw [e] at hbs; simp at hbs; rw [h] at hbs; cases hbs)
      cases e0
      · have e1 : (s.size : Int) - (t.size : Int) = ((s.size - t.size : Nat) : Int) := by omega
        have e2 : ((s.size - t.size : Nat) : Int) ≤ (s.size : Int) := by omega
        have e3 : (t.toList == (s.extract (s.size - t.size) s.size).toList) = true := by rw [← hparts.out.2.1]; simp
        cases bs
        · have hM := hparts.out.2.2.resolve_left (hbsH.out rfl)
          have c15 := Lib.hid (match_any av n cv p (s.extract 0 (s.size - t.size)) w3 hnH.out (hPH.out w3 B3.out) hn4 (Nat.le_trans (by rw [ByteArray.size_extract]; omega) hs4))
          have hMH := Lib.hid hM
          clear hM
          go_wp2_with fail
          refine c15.out.mono ?_
          rintro e w4 ⟨hb4, b4, rfl, h4⟩
          obtain rfl : b4 = true := h4.2 hMH.out
          have B4 := Lib.hid (below_on B3.out hw0 hb4)
          clear hb4 h4 c15
          go_wp2_with fail
          go_ret
          exact ⟨rfl, below_on hB0.out hwr B4.out⟩
        · go_wp2_with fail
          go_ret
          exact ⟨rfl, below_on hB0.out hwr B3.out⟩
      · have e3 : (t.toList == (s.extract 0 t.size).toList) = true := by rw [← hparts.out.2.1]; simp
        cases bs
        · have hM := hparts.out.2.2.resolve_left (hbsH.out rfl)
          have c15 := Lib.hid (match_any av n cv p (s.extract t.size s.size) w3 hnH.out (hPH.out w3 B3.out) hn4 (Nat.le_trans (by rw [ByteArray.size_extract]; omega) hs4))
          have hMH := Lib.hid hM
          clear hM
          go_wp2_with fail
          refine c15.out.mono ?_
          rintro e w4 ⟨hb4, b4, rfl, h4⟩
          obtain rfl : b4 = true := h4.2 hMH.out
          have B4 := Lib.hid (below_on B3.out hw0 hb4)
          clear hb4 h4 c15
          go_wp2_with fail
          go_ret
          exact ⟨rfl, below_on hB0.out hwr B4.out⟩
        · go_wp2_with fail
          go_ret
          exact ⟨rfl, below_on hB0.out hwr B3.out⟩
end Go.Proofs.Ytlaidmjlgjpgcaa
