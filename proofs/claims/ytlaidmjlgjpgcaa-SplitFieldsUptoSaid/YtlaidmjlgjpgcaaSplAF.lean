/- SplitFields' walk. Condition: the bulk of the pieces. -/
import Derived.Test.YtlaidmjlgjpgcaaSplAE
namespace Go.Proofs.Ytlaidmjlgjpgcaa
open Go.RowKit
attribute [local go_sem] Oper.semAt_some

set_option maxHeartbeats 8000000 in
set_option maxRecDepth 100000 in
theorem splitFields_walk (av : Option Addr) (n cv : Nat) (ps : List Pc) (ifs : ByteArray) (w : World) (hn : ps.length = n) (hP : PcsAt w.heap.size w av ps) (hz : (bytesCat ps).length + ps.length * 4 ≤ 1048576) (hifs : ifs.size ≤ 140737488355328) :
    Calls Try.prog 9 #[.slice av n cv, .string ifs] w fun e w' => e = .returned (.bool true) ∧ Below w.heap.size w w' := by
  have hnH := Lib.hid hn
  have hPH := Lib.hid hP
  have hzH := Lib.hid hz
  rw [hn] at hz
  clear hn hP
  obtain ⟨n₀, hn₀⟩ : ∃ n₀, w.heap.size = n₀ := ⟨_, rfl⟩
  rw [hn₀] at hPH ⊢
  have hn₀H := Lib.hid hn₀
  go_enter Try.func9, Try.ntmps9
  go_wp2_with fail
  refine (awake_any w).mono ?_
  rintro e w1 ⟨rfl, hB1⟩
  rw [hn₀] at hB1
  have hB1H := Lib.hid hB1
  have hw1 := hB1.size
  have hwn : n₀ ≤ w1.heap.size := by omega
  clear hB1 hn₀ hw1
  go_wp2_with fail
  go_loop [18, 5] (fun s18 s5 => ∃ k : Nat, k ≤ n ∧ s18 = .int .i64 k ∧ s5 = .int .i64 ((ifs.size + (bytesCat (ps.take k)).length : Nat) : Int)) (fun s18 _ => n - (intOf s18).toNat)
  case atStart => exact ⟨0, Nat.zero_le _, rfl, rfl⟩
  case round =>
    obtain ⟨k, hk, rfl, rfl⟩ := hrel
    obtain ⟨m, hm⟩ : ∃ m, ifs.size + (bytesCat (ps.take k)).length = m := ⟨_, rfl⟩
    rw [hm]
    have hmH := Lib.hid hm
    by_cases hlt : k < n
    · obtain ⟨p, hp⟩ : ∃ p, ps[k]? = some p := ⟨_, List.getElem?_eq_getElem (by rw [hnH.out]; exact hlt)⟩
      obtain ⟨g, off, rfl, hg, c0, _⟩ := hPH.out k p hp
      have hle := bytesCat_le hp
      have hz1 := hzH.out
      have d0 := (hB1H.out.cell (p := ⟨g, off + k * 3, none⟩) hg).trans c0
      have hlt' : (k : Int) < (n : Int) := by omega
      have hm2 : m + p.t.size ≤ 140737488355328 + 1048576 := by omega
      have hpH := Lib.hid hp
      clear hm hp c0 hz1 hle
      obtain ⟨pt, hpt⟩ : ∃ pt, p.t = pt := ⟨_, rfl⟩
      rw [hpt] at d0 hm2
      have hptH := Lib.hid hpt
      clear hpt
      go_wp2_with fail
      go_round
      case rel =>
        have e2 : p.t.data.toList.length = pt.size := by rw [← hptH.out]; rfl
        exact ⟨k + 1, by omega, by go_num, by rw [snoc_take hpH.out, bytesCat_snoc, List.length_append, e2, ← Nat.add_assoc, hmH.out]; go_num⟩
      case measure => simp [intOf]; omega
    · have hlt' : ¬ (k : Int) < (n : Int) := by omega
      obtain rfl : k = n := by omega
      have htk : ps.take k = ps := by rw [← hnH.out, List.take_length]
      rw [htk] at hmH
      clear hm htk
      by_cases g1 : (10000 : Int) < m
      · go_wp2_with fail
        go_ret
        exact ⟨rfl, hB1H.out⟩
      · have hps : Hid ((bytesCat ps).length ≤ 10000) := Lib.hid (by have := hmH.out; omega)
        have hfa := fields_any ifs av cv ps (by rw [hnH.out]; omega) w1 ((hPH.out.below hB1H.out).mono (by omega))
        rw [hnH.out] at hfa
        have hfaH := Lib.hid hfa
        clear hfa
        go_wp2_with fail
        refine hfaH.out.mono ?_
        rintro e w4 ⟨hB4, hcase⟩
        have hcaseH := Lib.hid hcase
        have hB4H := Lib.hid hB4
        have hB4n : Hid (Below n₀ w w4) := Lib.hid (hB1H.out.trans (hB4.mono (by omega)))
        have hsz4 := hB4.size
        have hrf := Lib.hid (refFields_any av k cv ps ifs w4 hnH.out ((hPH.out.below hB4n.out).mono (by omega)) hzH.out (by omega))
        clear hcase hB4 hfaH
        have hBn : Hid (∀ W5 W : World, Below w4.heap.size w4 W5 → Below W5.heap.size W5 W → Below n₀ w W) := Lib.hid (fun W5 W h5 h => by
          have z5 := h5.size
          exact (hB4n.out.trans (h5.mono (by omega))).trans (h.mono (by omega)))
        rcases hcaseH.out with ⟨L, va, hL, rfl, hva⟩ | ⟨hL, rfl⟩
        · have hLs := fieldsOf_small hL
          obtain ⟨a1, c1, rfl, _⟩ := hva.view
          have hLsH := Lib.hid hLs
          have hvaH := Lib.hid hva
          have hLF : Hid ((fold mk0 ((partsOf ifs ps).map ptOf)).fin.fs = L ∧ ¬ tooMany L) := Lib.hid (by
            rcases fieldsOf_eq ((partsOf ifs ps).map ptOf) with ⟨h1, h2⟩ | ⟨h1, _⟩
            · rw [hL] at h1
              have := Option.some.inj h1
              rw [this]
              exact ⟨rfl, h2⟩
            · rw [hL] at h1; cases h1)
          rw [hLF.out.1] at hrf
          clear hLs hva hL hcaseH
          go_wp2_with fail
          refine hrf.out.mono ?_
          rintro e w5 ⟨hB5, ⟨vb, _, rfl, hvb⟩ | ⟨ht, -⟩⟩
          · obtain ⟨a2, c2, rfl, hv2⟩ := hvb.view
            have hva5 := (hvaH.out.beneath hB5)
            obtain ⟨a1', c1', e1, hv1⟩ := hva5.view
            obtain ⟨rfl, -, rfl⟩ := Value.slice.inj e1
            obtain ⟨_, _, e3, _, hget⟩ := hva5.get
            obtain ⟨rfl, -, rfl⟩ := Value.slice.inj e3
            have hgetH := Lib.hid hget
            have hv1H := Lib.hid hv1
            have hv2H := Lib.hid hv2
            have hB5H := Lib.hid hB5
            have hva5H := Lib.hid hva5
            have hvbH := Lib.hid hvb
            obtain ⟨q, hq⟩ : ∃ q, L.length = q := ⟨_, rfl⟩
            have hqi : q ≤ 100000 := by rw [← hq]; exact hLsH.out.1
            rw [hq]
            have hqH := Lib.hid hq
            clear e1 e3 hget hv1 hv2 hB5 hvb hva5 hq
            go_wp2_with fail
            go_loopw [46] (fun s46 wr => ∃ i : Nat, i ≤ q ∧ s46 = .int .i64 i ∧ Hid (Below w5.heap.size w5 wr)) (fun s46 _ => q - (intOf s46).toNat)
            case atStart => exact ⟨0, Nat.zero_le _, rfl, Lib.hid (Below.refl _ _)⟩
            case round =>
              obtain ⟨i, hi, rfl, hbx⟩ := hrel
              by_cases hlt3 : i < q
              · have hlt3' : (i : Int) < (q : Int) := by omega
                obtain ⟨f, hf⟩ : ∃ f, L[i]? = some f := ⟨_, List.getElem?_eq_getElem (by rw [hqH.out]; exact hlt3)⟩
                obtain ⟨g, u, hg1, hg2, _, hg4, hg5⟩ := hgetH.out i f hf
                have hfl := hLsH.out.2 f (List.mem_of_getElem? hf)
                obtain ⟨T, hT⟩ : ∃ T : ByteArray, (⟨(txt f).toArray⟩ : ByteArray) = T := ⟨_, rfl⟩
                have hTx : Hid (∀ W, Below w5.heap.size w5 W → Calls Try.prog 29 #[u] W fun e w' => e = .returned (.string T) ∧ Below w5.heap.size w5 w') := Lib.hid (fun W hW => by
                  refine (text_any u f W (own_blk hg5 (fun q hq => hW.block q (hg5.lt q hq).2)) hfl).mono ?_
                  rintro e w' ⟨rfl, hw'⟩
                  rw [hT]
                  exact ⟨rfl, hW.trans (hw'.mono hW.size)⟩)
                have hRx : Hid (∀ W, Below w5.heap.size w5 W → Calls Try.prog 30 #[u] W fun e w' => e = .returned (.string T) ∧ Below w5.heap.size w5 w') := Lib.hid (fun W hW => by
                  refine (refText_all u f W (fld_view (own_blk hg5 (fun q hq => hW.block q (hg5.lt q hq).2))) hfl).mono ?_
                  rintro e w' ⟨rfl, hw'⟩
                  rw [hT]
                  exact ⟨rfl, hW.trans (hw'.mono hW.size)⟩)
                have hS : Hid (∀ W, Below w5.heap.size w5 W → W.cell? ⟨g, i, none⟩ = some u) := Lib.hid (fun W hW => (hW.cell (p := ⟨g, i, none⟩) hg2).trans hg4)
                have d0 := hS.out _ hbx.out
                have hfH := Lib.hid hf
                subst hg1
                clear hg4 hg5 hT hf hfl
                go_upto_region 16 with fail
                go_region_held3 (fun W => W.cell? ⟨g, i, none⟩ = some u) (first | exact hS.out _ hbx.out.drew | exact hS.out _ hb6 | exact hS.out _ hb5) (first | (go_at_call 29; refine (hTx.out _ hb5).mono ?_; rintro e w7 ⟨rfl, hb6⟩) | (go_at_call 30; refine (hRx.out _ hb5).mono ?_; rintro e w7 ⟨rfl, hb6⟩) | (go_at_call 29; refine (hTx.out _ hbx.out.drew).mono ?_; rintro e w6 ⟨rfl, hb5⟩) | (go_at_call 30; refine (hRx.out _ hbx.out.drew).mono ?_; rintro e w6 ⟨rfl, hb5⟩))
                all_goals
                  have hb6H := Lib.hid hb6
                  clear hb5 hb6
                  go_wp2_with fail
                  go_roundw
                  case rel => exact ⟨i + 1, by omega, by go_num, hb6H⟩
                  case measure => simp [intOf]; omega
              · have hlt3' : ¬ (i : Int) < (q : Int) := by omega
                have hcall := Lib.hid (same_yes a1 a2 c1 c2 L hLsH.out.1 hLsH.out.2 wr (by
                  obtain ⟨_, _, e4, h4⟩ := (hva5H.out.beneath hbx.out).view
                  obtain ⟨rfl, -, rfl⟩ := Value.slice.inj e4
                  exact h4) (by
                  obtain ⟨_, _, e4, h4⟩ := (hvbH.out.beneath hbx.out).view
                  obtain ⟨rfl, -, rfl⟩ := Value.slice.inj e4
                  exact h4))
                rw [hqH.out] at hcall
                go_wp2_with fail
                refine hcall.out.mono ?_
                rintro e w6 ⟨rfl, z, rfl⟩
                go_wp2_with fail
                go_ret
                exact ⟨rfl, below_drewN (hBn.out _ _ hB5H.out hbx.out) _⟩
          · exact absurd ht hLF.out.2
        · have hLF : Hid (tooMany (fold mk0 ((partsOf ifs ps).map ptOf)).fin.fs) := Lib.hid (by
            rcases fieldsOf_eq ((partsOf ifs ps).map ptOf) with ⟨h1, _⟩ | ⟨_, h2⟩
            · rw [hL] at h1; cases h1
            · exact h2)
          clear hL hcaseH
          go_wp2_with fail
          refine hrf.out.mono ?_
          rintro e w5 ⟨hB5, ⟨vb, ht, rfl, hvb⟩ | ⟨_, rfl⟩⟩
          · exact absurd hLF.out ht
          · have hB5H := Lib.hid hB5
            have hcall := Lib.hid (same_yes none none 0 0 [] (by simp) (by simp) w5 (fun i f h => by simp at h) (fun i f h => by simp at h))
            clear hB5
            go_wp2_with fail
            go_loop [46] (fun s46 => s46 = .int .i64 0) (fun _ => 0)
            case atStart => rfl
            case round =>
              obtain rfl := hrel
              go_wp2_with fail
              refine hcall.out.mono ?_
              rintro e w6 ⟨rfl, z, rfl⟩
              go_wp2_with fail
              go_ret
              exact ⟨rfl, below_drewN (hBn.out _ _ hB5H.out (Below.refl _ _)) _⟩
end Go.Proofs.Ytlaidmjlgjpgcaa
