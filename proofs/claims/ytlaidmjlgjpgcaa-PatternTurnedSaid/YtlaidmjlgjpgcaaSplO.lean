/- SplitNothing's walk. Condition: lengths. -/
import Derived.Test.YtlaidmjlgjpgcaaSplN
import Derived.StillTailTactics
namespace Go.Proofs.Ytlaidmjlgjpgcaa
open Go.RowKit
attribute [local go_sem] Oper.semAt_some

theorem info39 : (Try.prog.info? 39).map (fun i => (i.zero, i.size, i.bytes)) = some (some (.agg #[.string ByteArray.empty, .bool false, .bool false]), 3, 24) := by kernel_rfl

theorem bytesCat_snoc (ps : List Pc) (p : Pc) : bytesCat (ps ++ [p]) = bytesCat ps ++ p.t.data.toList := by unfold bytesCat; simp
theorem anyQ_snoc (ps : List Pc) (p : Pc) : anyQ (ps ++ [p]) = (anyQ ps || p.q) := by unfold anyQ; simp
theorem pcv_snoc (ps : List Pc) (p : Pc) : pcv (qOf (ps ++ [p])) = pcv (qOf ps) ++ [.string p.t, .bool true, .bool p.sp] := by unfold pcv qOf; simp

set_option maxHeartbeats 8000000 in
set_option maxRecDepth 100000 in
theorem splitNothing_walk (av : Option Addr) (n cv : Nat) (ps : List Pc) (ifs : ByteArray) (w : World) (hn : ps.length = n) (hP : PcsAt w.heap.size w av ps) (hz : ∀ p ∈ ps, p.t.size ≤ 140737488355328) (hc : n * 24 ≤ 140737488355328) :
    Calls Try.prog 10 #[.slice av n cv, .string ifs] w fun e w' => e = .returned (.bool true) ∧ Below w.heap.size w w' := by
  obtain ⟨i0, hi, hz0, hz1, hz2⟩ := info_parts info39
  have hnH := Lib.hid hn
  have hPH := Lib.hid hP
  have hzH := Lib.hid hz
  clear hn hP hz
  obtain ⟨n₀, hn₀⟩ : ∃ n₀, w.heap.size = n₀ := ⟨_, rfl⟩
  rw [hn₀] at hPH ⊢
  have hn₀H := Lib.hid hn₀
  go_enter Try.func10, Try.ntmps10
  go_wp2_with fail
  refine (awake_any w).mono ?_
  rintro e w1 ⟨rfl, hB1⟩
  rw [hn₀] at hB1
  have hB1H := Lib.hid hB1
  clear hB1 hn₀
  go_wp2_with fail
  go_loopw [17, 5, 6, 7] (fun s17 s5 s6 s7 wr => ∃ (k : Nat) (S : ByteArray), k ≤ n ∧ s17 = .int .i64 k ∧ s5 = .string S ∧ S.data.toList = bytesCat (ps.take k) ∧ s6 = .bool (anyQ (ps.take k)) ∧ wr.ownsRow n₀ 39 3 s7 k (pcv (qOf (ps.take k))) ∧ S.size ≤ 4000 ∧ Below n₀ w wr) (fun s17 _ _ _ _ => n - (intOf s17).toNat)
  case atStart => exact ⟨0, ⟨#[]⟩, Nat.zero_le _, rfl, rfl, rfl, rfl, World.ownsRow_nil _ _ _ _, by decide, hB1H.out⟩
  case round =>
    obtain ⟨k, S, hk, rfl, rfl, hS, rfl, hown, hSz, hbel⟩ := hrel
    obtain ⟨a7, c7, rfl⟩ := ownsRow_slice hown
    have hwr := hbel.size
    have hwn := hn₀H.out
    by_cases hlt : k < n
    · obtain ⟨p, hp⟩ : ∃ p, ps[k]? = some p := ⟨_, List.getElem?_eq_getElem (by rw [hnH.out]; exact hlt)⟩
      obtain ⟨g, off, rfl, hg, c0, c1, c2, _⟩ := hPH.out k p hp
      have hps := hzH.out p (List.mem_of_getElem? hp)
      have d0 := (hbel.cell (p := ⟨g, off + k * 3, none⟩) hg).trans c0
      have d1 := (hbel.cell (p := ⟨g, off + k * 3 + 1, none⟩) hg).trans c1
      have d2 := (hbel.cell (p := ⟨g, off + k * 3 + 2, none⟩) hg).trans c2
      have hlt' : (k : Int) < (n : Int) := by omega
      have hbelH := Lib.hid hbel
      have hownH := Lib.hid hown
      have hpH := Lib.hid hp
      have hSH := Lib.hid hS
      have z1 : ¬ 9223372036854775807 < S.size + p.t.size := by omega
      obtain ⟨aq, haq⟩ : ∃ aq, anyQ (ps.take k) = aq := ⟨_, rfl⟩
      have haqH := Lib.hid haq
      rw [haq]
      obtain ⟨pt, hpt⟩ : ∃ pt, p.t = pt := ⟨_, rfl⟩
      obtain ⟨pq, hpq⟩ : ∃ pq, p.q = pq := ⟨_, rfl⟩
      obtain ⟨psp, hpsp⟩ : ∃ psp, p.sp = psp := ⟨_, rfl⟩
      rw [hpt] at hps d0 z1
      rw [hpq] at d1
      rw [hpsp] at d2
      have hpeH := Lib.hid (And.intro hpt (And.intro hpq hpsp))
      have hCells : Hid (∀ W, Below n₀ w W → W.cell? ⟨g, off + k * 3, none⟩ = some (.string pt) ∧ W.cell? ⟨g, off + k * 3 + 2, none⟩ = some (.bool psp)) := Lib.hid (fun W h => ⟨by rw [← hpt]; exact (h.cell (p := ⟨g, off + k * 3, none⟩) hg).trans c0, by rw [← hpsp]; exact (h.cell (p := ⟨g, off + k * 3 + 2, none⟩) hg).trans c2⟩)
      clear hbel hown hp c0 c1 c2 hS haq hpt hpq hpsp
      go_upto_region 11 with fail
      all_goals
        go_region_held3 (fun W => W.cell? ⟨g, off + k * 3, none⟩ = some (.string pt) ∧ W.cell? ⟨g, off + k * 3 + 2, none⟩ = some (.bool psp)) (first | exact hCells.out _ hbelH.out.drew | exact hCells.out _ (hbelH.out.drew.alloc (by simp; omega) _) | exact hCells.out _ hbg) (first | (refine step_append_lies _ (by rfl) _ _ _ (by rfl) n₀ 39 i0 _ 3 24 Try.underlying37 hi hz0 hz1 hz2 rfl (by omega) (.slice a7 k c7) k (pcv (qOf (ps.take k))) (by rfl) (hownH.out.drew.alloc _) ⟨wr.heap.size, 0, none⟩ 1 1 [.string pt, .bool true, .bool psp] (by rfl) (by rfl) (World.news_of_block (cs := #[.string pt, .bool true, .bool psp]) (t := 39) (fr := (0, 0)) (heap_alloc_new wr.drew _)) (by simp [Value.oneCell']) (by omega) (by unfold maxLen; omega) (by omega) (by simp; omega) (wr.heap.size + 1) (by simp) ?_; intro gg cap w2 hown2 hgrow hat hlt1; have hbg : Below n₀ w w2 := (hbelH.out.drew.alloc (by simp; omega) _).grown hgrow (by simp; omega) (fun q e => (hownH.out.lt q e).1)))
        have hbgH := Lib.hid hbg
        have ho2H := Lib.hid hown2
        clear hbg hown2 hgrow hat hlt1
        have hrel : Hid ((S ++ pt).data.toList = bytesCat (ps.take (k + 1)) ∧ anyQ (ps.take (k + 1)) = (aq || pq) ∧ pcv (qOf (ps.take (k + 1))) = pcv (qOf (ps.take k)) ++ [.string pt, .bool true, .bool psp]) := Lib.hid (by
          rw [snoc_take hpH.out, bytesCat_snoc, anyQ_snoc, pcv_snoc, haqH.out, ← hSH.out, hpeH.out.1, hpeH.out.2.1, hpeH.out.2.2]
          exact ⟨by rw [ByteArray.data_append, Array.toList_append], rfl, rfl⟩)
        by_cases hbig : (4000 : Int) < (S.size : Int) + (pt.size : Int)
        · go_wp2_with fail
          go_ret
          exact ⟨rfl, hbgH.out⟩
        · go_wp2_with fail
          go_roundw
          case rel => exact ⟨k + 1, S ++ pt, by omega, by go_num, rfl, hrel.out.1, by rw [hrel.out.2.1]; simp [*], by rw [hrel.out.2.2]; exact ho2H.out, by rw [ByteArray.size_append]; omega, hbgH.out⟩
          case measure => simp [intOf]; omega
    · have hlt' : ¬ (k : Int) < (n : Int) := by omega
      obtain rfl : k = n := by omega
      have htk : ps.take k = ps := by rw [← hnH.out, List.take_length]
      rw [htk] at hS hown ⊢
      have hSl : (bytesCat ps).length ≤ 4000 := by
        rw [← hS, Array.length_toList]
        exact hSz
      have hql : (qOf ps).length = k := by unfold qOf; rw [List.length_map, hnH.out]
      have hfa := fields_any ⟨#[]⟩ av cv ps (by rw [hnH.out]; omega) wr ((hPH.out.below hbel).mono (by omega))
      rw [whole_fields ⟨#[]⟩ ps (fun p _ c => mk_none p c) hSl, hnH.out] at hfa
      have hfaH := Lib.hid hfa
      have hbelH := Lib.hid hbel
      have hownH := Lib.hid hown
      have hSH := Lib.hid hS
      clear hfa hbel hown hS
      go_wp2_with fail
      refine hfaH.out.mono ?_
      rintro e w4 ⟨hB4, ⟨La, va, hLa, rfl, hva⟩ | ⟨hL, rfl⟩⟩
      · have hown4 := own_blk hownH.out (fun q hq => hB4.block q (hownH.out.lt q hq).2)
        rw [← hql] at hown4
        obtain ⟨_, _, e7, hP7⟩ := pcs_own hown4 (fun p hp => by
          obtain ⟨q, hq, rfl⟩ := List.mem_map.1 hp
          exact Nat.le_trans (hzH.out q hq) (by decide))
        obtain ⟨rfl, -, rfl⟩ := Value.slice.inj e7
        have hfb := fields_any ifs a7 c7 (qOf ps) (by rw [hql]; omega) w4 hP7
        rw [whole_fields ifs (qOf ps) (mk_q ifs ps) (by rw [bytesCat_q]; exact hSl), hql] at hfb
        have hfbH := Lib.hid hfb
        have hB4H := Lib.hid hB4
        have hvaH := Lib.hid hva
        clear hfb hB4 hva hown4 hP7 e7
        obtain ⟨av1, cv1, rfl, hcv1, hget1⟩ := hvaH.out.get
        go_wp2_with fail
        refine hfbH.out.mono ?_
        rintro e w5 ⟨hB5, ⟨Lb, vb, hLb, rfl, hvb⟩ | ⟨hL, rfl⟩⟩
        · have hB5H := Lib.hid hB5
          have hvbH := Lib.hid hvb
          clear hB5 hvb
          obtain ⟨av2, cv2, rfl, hcv2, hget2⟩ := hvbH.out.get
          have hLa' := Option.some.inj hLa
          have hLb' := Option.some.inj hLb
          clear hLa hLb
          have hBn : Hid (∀ W, Below w5.heap.size w5 W → Below n₀ w W) := Lib.hid (fun W h => by
            have z4 := hB4H.out.size
            have z5 := hB5H.out.size
            exact ((hbelH.out.trans (hB4H.out.mono (by omega))).trans (hB5H.out.mono (by omega))).trans (h.mono (by omega)))
          have hTa : Hid (La = [whole ps] → ∃ g u, av1 = some ⟨g, 0, none⟩ ∧ g < w5.heap.size ∧ w5.cell? ⟨g, 0, none⟩ = some u ∧ ∀ W, Below w5.heap.size w5 W → Calls Try.prog 29 #[u] W fun e w' => e = .returned (.string S) ∧ Below w5.heap.size w5 w') := Lib.hid (fun hL => by
            obtain ⟨g, u, h1, h2, _, h3, h4⟩ := hget1 0 (whole ps) (by rw [hL]; rfl)
            have z5 := hB5H.out.size
            refine ⟨g, u, h1, by omega, (hB5H.out.cell (p := ⟨g, 0, none⟩) h2).trans h3, fun W hW => ?_⟩
            have hb : Below w4.heap.size w4 W := hB5H.out.trans (hW.mono z5)
            refine (text_any u _ W (own_blk h4 (fun q hq => hb.block q (h4.lt q hq).2)) (by rw [whole_len]; omega)).mono ?_
            rintro e w' ⟨rfl, hw'⟩
            rw [txt_whole, ← hSH.out]
            exact ⟨rfl, hW.trans (hw'.mono hW.size)⟩)
          have hTb : Hid (Lb = [whole (qOf ps)] → ∃ g u, av2 = some ⟨g, 0, none⟩ ∧ g < w5.heap.size ∧ w5.cell? ⟨g, 0, none⟩ = some u ∧ ∀ W, Below w5.heap.size w5 W → Calls Try.prog 29 #[u] W fun e w' => e = .returned (.string S) ∧ Below w5.heap.size w5 w') := Lib.hid (fun hL => by
            obtain ⟨g, u, h1, h2, _, h3, h4⟩ := hget2 0 (whole (qOf ps)) (by rw [hL]; rfl)
            refine ⟨g, u, h1, h2, h3, fun W hW => ?_⟩
            refine (text_any u _ W (own_blk h4 (fun q hq => hW.block q (h4.lt q hq).2)) (by rw [whole_len, bytesCat_q]; omega)).mono ?_
            rintro e w' ⟨rfl, hw'⟩
            rw [txt_whole, bytesCat_q, ← hSH.out]
            exact ⟨rfl, hW.trans (hw'.mono hW.size)⟩)
          have hcases : (k = 0 ∧ La.length = 0 ∧ Lb.length = 0) ∨ (¬ (k : Int) = 0 ∧ Lb = [whole (qOf ps)] ∧ ((La.length = 0 ∧ S = ⟨#[]⟩ ∧ anyQ ps = false) ∨ (La = [whole ps] ∧ (¬ S = ⟨#[]⟩ ∨ anyQ ps = true)))) := by
            by_cases hk0 : k = 0
            · left
              have : ps = [] := List.eq_nil_of_length_eq_zero (by rw [hnH.out, hk0])
              rw [← hLa', ← hLb', this]
              exact ⟨hk0, rfl, rfl⟩
            · right
              have hne : ps ≠ [] := fun e => hk0 (by rw [← hnH.out, e]; rfl)
              rw [begun_q ps hne] at hLb'
              refine ⟨by omega, hLb'.symm, ?_⟩
              have hbe := begun_eq ps
              rw [← hSH.out] at hbe
              cases hb : begun ps <;> rw [hb] at hbe hLa'
              · left
                obtain ⟨h1, h2⟩ := Bool.or_eq_false_iff.1 hbe.symm
                refine ⟨by rw [← hLa']; rfl, ?_, h1⟩
                have h3 : S.data.toList = [] := by simpa using h2
                cases S with
                | mk d => cases d with
                  | mk l => simp at h3; rw [h3]
              · right
                refine ⟨hLa'.symm, ?_⟩
                cases hq : anyQ ps
                · left
                  rintro rfl
                  rw [hq] at hbe
                  cases hbe
                · exact .inr rfl
          have hvb' := hcv2
          clear hget1 hget2 hLa' hLb' hcv1 hcv2 hvb'
          rcases hcases with ⟨rfl, ha, hb⟩ | ⟨hk0, hb, ⟨ha, rfl, hany⟩ | ⟨ha, hne⟩⟩
          · rw [ha, hb]
            go_wp2_with fail
            go_ret
            exact ⟨rfl, hBn.out _ (Below.refl _ _)⟩
          · obtain ⟨g, u, rfl, hg, hcu, hcall⟩ := hTb.out hb
            rw [ha, hany, hb, List.length_cons, List.length_nil]
            clear ha hb hany hTb hTa
            go_wp2_with fail
            refine (hcall _ (Below.refl _ _)).mono ?_
            rintro e w6 ⟨rfl, hb6⟩
            have hb6H := Lib.hid hb6
            clear hb6 hcall
            go_wp2_with fail
            go_ret
            exact ⟨rfl, hBn.out _ hb6H.out⟩
          · obtain ⟨g, u, rfl, hg, hcu, hcall⟩ := hTb.out hb
            obtain ⟨g1, u1, rfl, hg1, hcu1, hcall1⟩ := hTa.out ha
            rw [ha, hb, List.length_cons, List.length_nil]
            have hcall1H := Lib.hid hcall1
            clear ha hb hTb hTa hcall1
            go_wp2_with fail
            refine (hcall _ (Below.refl _ _)).mono ?_
            rintro e w6 ⟨rfl, hb6⟩
            have hcu2 : w6.cell? ⟨g1, 0, none⟩ = some u1 := (hb6.cell (p := ⟨g1, 0, none⟩) hg1).trans hcu1
            have hc6 := Lib.hid (hcall1H.out _ hb6)
            clear hb6 hcall hcall1H hcu1
            rcases hne with hne | hne
            · have hne2 : ¬ S.toList = [] := fun h => hne (by
                rw [Lib.toList_data] at h
                cases S with
                | mk d => cases d with
                  | mk l => exact congrArg (fun x : List UInt8 => (⟨x.toArray⟩ : ByteArray)) h)
              clear hne
              go_wp2_with fail
              refine hc6.out.mono ?_
              rintro e w7 ⟨rfl, hb7⟩
              have hb7H := Lib.hid hb7
              clear hb7 hc6
              go_wp2_with fail
              go_ret
              exact ⟨rfl, hBn.out _ hb7H.out⟩
            · rw [hne]
              go_wp2_with fail
              all_goals
                refine hc6.out.mono ?_
                rintro e w7 ⟨rfl, hb7⟩
                have hb7H := Lib.hid hb7
                clear hb7 hc6
                go_wp2_with fail
                go_ret
                exact ⟨rfl, hBn.out _ hb7H.out⟩
        · cases hL
      · cases hL
end Go.Proofs.Ytlaidmjlgjpgcaa
