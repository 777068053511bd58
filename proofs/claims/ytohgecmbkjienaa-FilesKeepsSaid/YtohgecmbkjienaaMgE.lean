/- The walk of FilesKeeps. Condition: the calls lie as stated; the texts' sizes. -/
import Derived.Test.YtohgecmbkjienaaMgD
namespace Go.Proofs.Ytohgecmbkjienaa
open Go.RowKit Go.Shelf Go.PlainAid
set_option linter.unusedVariables false
set_option linter.unusedSimpArgs false
attribute [local go_sem] Oper.semAt_some
set_option maxRecDepth 100000 in
set_option maxHeartbeats 16000000 in
theorem filesKeeps_walk (A : Option Addr) (len cap : Nat) (cs : List Cl) (w : World) (hl : cs.length = len) (hA : CallsAt w.heap.size w A cs) (hlen : len ≤ maxLen) (hB : ∀ x ∈ cs, ClB x) (hS : ∀ x ∈ cs, x.s.size ≤ reachBytes ∧ x.t.size ≤ reachBytes) :
    Calls Try.prog 3 #[.slice A len cap] w fun e w' => e = .returned (.bool true) ∧ Below w.heap.size w w' := by
  unfold maxLen at hlen
  have hAH := Lib.hid hA
  have hBH := Lib.hid hB
  have hSH := Lib.hid hS
  have hlH := Lib.hid hl
  clear hA hB hS hl
  go_enter Try.func3, Try.ntmps3
  go_wp2_with fail
  refine (awake_any w).mono ?_
  rintro e w1 ⟨rfl, hB1⟩
  go_wp2_with fail
  refine (new_own w1).mono ?_
  rintro e w2 ⟨rfl, hO2⟩
  have hO := Lib.hid (FsP.after hB1 hO2)
  obtain ⟨p, hp⟩ : ∃ p, w1.heap.size = p := ⟨_, rfl⟩
  rw [hp] at hO ⊢
  clear hO2 hB1 hp
  go_wp2_with fail
  go_loopw [20] (fun s20 wr => ∃ (i : Nat) (f : Fs), i ≤ len ∧ i ≤ 100 ∧ s20 = .int .i64 i ∧ Hid (WF i f) ∧ Hid (Own w wr p f)) (fun s20 _ => len - (intOf s20).toNat)
  case atStart => exact ⟨0, newM, Nat.zero_le _, Nat.zero_le _, rfl, Lib.hid new_wf, hO⟩
  case round =>
    obtain ⟨i, f, hi, hi2, rfl, hW, hOr⟩ := hrel
    have hbw := hOr.out.toBelow
    by_cases hil : i < len
    · obtain ⟨x, hx⟩ : ∃ x, cs[i]? = some x := ⟨_, List.getElem?_eq_getElem (by have := hlH.out; omega)⟩
      obtain ⟨b, off, rfl, hb, e0, e1, e2, e3, e4, e5⟩ := (hAH.out.below hbw).at hx
      by_cases hk3 : i = 100
      · subst hk3
        have hbw2 := Lib.hid hbw
        clear hbw
        go_wp2
        go_ret
        exact ⟨rfl, hbw2.out.alloc hbw2.out.size _⟩
      · have hk5 : ((i : Int) == 100) = false := by simp; omega
        obtain ⟨q, N, M, K, s, t⟩ := x
        dsimp only at e0 e1 e2 e3 e4 e5
        have hxm := List.mem_of_getElem? hx
        have hxb := hBH.out _ hxm
        have hxs := (hSH.out _ hxm)
        obtain ⟨k1, k2, k3, k4, k6, k7⟩ := hxb
        dsimp only at k1 k2 k3 k4 k6 k7 hxs
        have k9 : t.size ≤ 9000000000000000000 := by have := hxs.2; have := reachBytes_lt; omega
        have hc5 : i ≤ 5000 := by omega
        obtain ⟨q0, hq0⟩ : ∃ q0, wr.heap.size = q0 := ⟨_, rfl⟩
        obtain ⟨W1, hW1⟩ : ∃ W1, wr.alloc (.cells #[.int .i64 q, .int .i64 N, .int .i64 M, .int .i64 K, .string s, .string t] 27) = W1 := ⟨_, rfl⟩
        have hb1 : Below wr.heap.size wr W1 := by rw [← hW1]; exact alB _ _
        have hC1 := Lib.hid (show Blk W1 q0 27 #[.int .i64 q, .int .i64 N, .int .i64 M, .int .i64 K, .string s, .string t] by rw [← hW1]; exact newB _ _ _ hq0)
        have hs1 : W1.heap.size = q0 + 1 := by rw [← hW1, ← hq0]; simp
        have hb1H := Lib.hid hb1
        have hxH := Lib.hid hx
        have hK := Lib.hid (show s.size ≤ maxLen ∧ t.size ≤ maxLen ∧ t.size ≤ 9000000000000000000 from ⟨k1, k2, k9⟩)
        clear hx hb1 hxm hxs k1 k2 k9 hbw
        go_wp2_with (first | rw [hW1] | rw [hq0])
        refine (hOr.out.treeB hW.out hc5 hb1H.out).mono ?_
        rintro e w2 ⟨v, rfl, hR2, hb2, hb2'⟩
        have hR2H := Lib.hid hR2
        have hb2H := Lib.hid hb2
        have hb2'H := Lib.hid hb2'
        clear hR2 hb2 hb2'
        go_wp2_with fail
        refine (hOr.out.bytesB hW.out hc5 hb2H.out).mono ?_
        rintro e w3 ⟨rfl, hb3'⟩
        have hb3H := Lib.hid (hb2H.out.trans (below_of hb3' hb2H.out.size))
        have hb3'H := Lib.hid hb3'
        clear hb3'
        go_wp2_with fail
        refine (hOr.out.countB hW.out hb3H.out).mono ?_
        rintro e w4 ⟨rfl, hb4'⟩
        have hb4H := Lib.hid (hb3H.out.trans (below_of hb4' hb3H.out.size))
        have h24 : Hid (Below w2.heap.size w2 w4) := Lib.hid (hb3'H.out.trans (below_of hb4' hb3'H.out.size))
        have h14 : Hid (Below W1.heap.size W1 w4) := Lib.hid (hb2'H.out.trans (below_of h24.out hb2'H.out.size))
        have hC4 := Lib.hid (show Blk w4 q0 27 #[.int .i64 q, .int .i64 N, .int .i64 M, .int .i64 K, .string s, .string t] from blk_beneath hC1.out h14.out)
        have hR4 := Lib.hid (row_beneath hR2H.out h24.out)
        have hq4 : q0 < w4.heap.size := hC4.out.lt
        have d0 : w4.cell? ⟨q0, 0, none⟩ = some (.int .i64 q) := hC4.out.cell 0
        have d1 : w4.cell? ⟨q0, 1, none⟩ = some (.int .i64 N) := hC4.out.cell 1
        have d2 : w4.cell? ⟨q0, 2, none⟩ = some (.int .i64 M) := hC4.out.cell 2
        have d3 : w4.cell? ⟨q0, 3, none⟩ = some (.int .i64 K) := hC4.out.cell 3
        have d4 : w4.cell? ⟨q0, 4, none⟩ = some (.string s) := hC4.out.cell 4
        have d5 : w4.cell? ⟨q0, 5, none⟩ = some (.string t) := hC4.out.cell 5
        clear hb4'
        go_wp2_with fail
        refine (hOr.out.askX hW.out hc5 hb4H.out q N M K s t hK.out.1 hK.out.2.1 hK.out.2.2).mono ?_
        rintro E w5 ⟨⟨nn, xx, s0, s1, s2, s3, s4, yy, rfl⟩, hO5, hH5⟩
        obtain ⟨er, her⟩ : ∃ er, errF f q N M K s t = er := ⟨_, rfl⟩
        obtain ⟨F, hF⟩ : ∃ F, stepF f q N M K s t = F := ⟨_, rfl⟩
        have hWF := Lib.hid (step_wf hW.out q N M K s t)
        have hse := Lib.hid (step_err hW.out q N M K s t)
        rw [her]
        rw [hF] at hO5 hWF hse
        rw [her] at hse
        have hO5H := Lib.hid hO5
        have hC5 := Lib.hid (show Blk w5 q0 27 #[.int .i64 q, .int .i64 N, .int .i64 M, .int .i64 K, .string s, .string t] from (hH5.block q0 (by omega) hq4).trans hC4.out)
        have hR5 := Lib.hid (row_keep hR4.out (fun g hg => hH5.block g (by have := row_ge hR2H.out hg; omega) (row_lt hR4.out hg)))
        obtain ⟨q5, hq5⟩ : ∃ q5, w5.heap.size = q5 := ⟨_, rfl⟩
        obtain ⟨W6, hW6⟩ : ∃ W6, w5.alloc (.cells #[.int .i64 nn, .string xx, .int .i64 s0, .int .i64 s1, .int .i64 s2, .int .i64 s3, .int .i64 s4, .string yy, .int .i64 (er : Nat)] 34) = W6 := ⟨_, rfl⟩
        have hb6 : Below w5.heap.size w5 W6 := by rw [← hW6]; exact alB _ _
        have hA6 : Blk W6 q5 34 #[.int .i64 nn, .string xx, .int .i64 s0, .int .i64 s1, .int .i64 s2, .int .i64 s3, .int .i64 s4, .string yy, .int .i64 (er : Nat)] := by rw [← hW6]; exact newB _ _ _ hq5
        have a8 : W6.cell? ⟨q5, 8, none⟩ = some (.int .i64 (er : Nat)) := hA6.cell 8
        have b0 : W6.cell? ⟨q0, 0, none⟩ = some (.int .i64 q) := (blk_beneath hC5.out hb6).cell 0
        have hO6 := Lib.hid (hO5H.out.below hb6)
        have hR6 := Lib.hid (row_beneath hR5.out hb6)
        clear hO5 hH5 hb6 hA6 her hF d0 d1 d2 d3 d4 d5
        go_upto_region 10 with (first | rw [hW6] | rw [hq5])
        go_cut [82] (fun s82 wx => s82 = .bool false ∧ Hid (Own w wx p F))
        case first =>
          by_cases z0 : er ≠ 0
          · as_aux_lemma =>
              obtain rfl : f = F := (hse.out (.inl z0)).symm
              have y0 : ((er : Int) != 0) = true := bne_iff_ne.2 (by omega)
              go_wp2_with fail
              refine (hO6.out.treeB hWF.out (by omega) (Below.refl _ _)).mono ?_
              rintro e w7 ⟨v2, rfl, hR7, hb7, _⟩
              have hR7H := Lib.hid hR7
              have hb7H := Lib.hid hb7
              clear hR7 hb7
              go_wp2_with fail
              refine (same_any hR7H.out (row_beneath hR6.out hb7H.out) (by have := TreeM_len hW.out hc5; omega)).mono ?_
              rintro e w8 ⟨rfl, hb8⟩
              have hb8H := Lib.hid (hb7H.out.trans (below_of hb8 hb7H.out.size))
              clear hb8
              go_wp2_with fail
              refine (hO6.out.bytesB hWF.out (by omega) hb8H.out).mono ?_
              rintro e w9 ⟨rfl, hb9⟩
              have hb9H := Lib.hid (hb8H.out.trans (below_of hb9 hb8H.out.size))
              clear hb9
              go_wp2_with fail
              refine (hO6.out.countB hWF.out hb9H.out).mono ?_
              rintro e wa ⟨rfl, hba⟩
              have hbaH := Lib.hid (hb9H.out.trans (below_of hba hb9H.out.size))
              clear hba
              have xb : (((bytesM f : Nat) : Int) != ((bytesM f : Nat) : Int)) = false := by simp
              have xc : (((countM f : Nat) : Int) != ((countM f : Nat) : Int)) = false := by simp
              go_wp2
              go_meet
              exact ⟨rfl, Lib.hid (hO6.out.below hbaH.out)⟩
          · obtain rfl : er = 0 := by omega
            by_cases z1 : q = 0
            · as_aux_lemma =>
                subst z1
                obtain rfl : f = F := (hse.out (.inr (.inl rfl))).symm
                go_wp2_with fail
                refine (hO6.out.treeB hWF.out (by omega) (Below.refl _ _)).mono ?_
                rintro e w7 ⟨v2, rfl, hR7, hb7, _⟩
                have hR7H := Lib.hid hR7
                have hb7H := Lib.hid hb7
                clear hR7 hb7
                go_wp2_with fail
                refine (same_any hR7H.out (row_beneath hR6.out hb7H.out) (by have := TreeM_len hW.out hc5; omega)).mono ?_
                rintro e w8 ⟨rfl, hb8⟩
                have hb8H := Lib.hid (hb7H.out.trans (below_of hb8 hb7H.out.size))
                clear hb8
                go_wp2_with fail
                refine (hO6.out.bytesB hWF.out (by omega) hb8H.out).mono ?_
                rintro e w9 ⟨rfl, hb9⟩
                have hb9H := Lib.hid (hb8H.out.trans (below_of hb9 hb8H.out.size))
                clear hb9
                go_wp2_with fail
                refine (hO6.out.countB hWF.out hb9H.out).mono ?_
                rintro e wa ⟨rfl, hba⟩
                have hbaH := Lib.hid (hb9H.out.trans (below_of hba hb9H.out.size))
                clear hba
                have xb : (((bytesM f : Nat) : Int) != ((bytesM f : Nat) : Int)) = false := by simp
                have xc : (((countM f : Nat) : Int) != ((countM f : Nat) : Int)) = false := by simp
                go_wp2
                go_meet
                exact ⟨rfl, Lib.hid (hO6.out.below hbaH.out)⟩
            · skip
              by_cases z2 : q = 7
              · as_aux_lemma =>
                  subst z2
                  obtain rfl : f = F := (hse.out (.inr (.inr (.inl rfl)))).symm
                  go_wp2_with fail
                  refine (hO6.out.treeB hWF.out (by omega) (Below.refl _ _)).mono ?_
                  rintro e w7 ⟨v2, rfl, hR7, hb7, _⟩
                  have hR7H := Lib.hid hR7
                  have hb7H := Lib.hid hb7
                  clear hR7 hb7
                  go_wp2_with fail
                  refine (same_any hR7H.out (row_beneath hR6.out hb7H.out) (by have := TreeM_len hW.out hc5; omega)).mono ?_
                  rintro e w8 ⟨rfl, hb8⟩
                  have hb8H := Lib.hid (hb7H.out.trans (below_of hb8 hb7H.out.size))
                  clear hb8
                  go_wp2_with fail
                  refine (hO6.out.bytesB hWF.out (by omega) hb8H.out).mono ?_
                  rintro e w9 ⟨rfl, hb9⟩
                  have hb9H := Lib.hid (hb8H.out.trans (below_of hb9 hb8H.out.size))
                  clear hb9
                  go_wp2_with fail
                  refine (hO6.out.countB hWF.out hb9H.out).mono ?_
                  rintro e wa ⟨rfl, hba⟩
                  have hbaH := Lib.hid (hb9H.out.trans (below_of hba hb9H.out.size))
                  clear hba
                  have xb : (((bytesM f : Nat) : Int) != ((bytesM f : Nat) : Int)) = false := by simp
                  have xc : (((countM f : Nat) : Int) != ((countM f : Nat) : Int)) = false := by simp
                  go_wp2
                  go_meet
                  exact ⟨rfl, Lib.hid (hO6.out.below hbaH.out)⟩
              · skip
                by_cases z3 : q = 11
                · as_aux_lemma =>
                    subst z3
                    obtain rfl : f = F := (hse.out (.inr (.inr (.inr (.inl rfl))))).symm
                    go_wp2_with fail
                    refine (hO6.out.treeB hWF.out (by omega) (Below.refl _ _)).mono ?_
                    rintro e w7 ⟨v2, rfl, hR7, hb7, _⟩
                    have hR7H := Lib.hid hR7
                    have hb7H := Lib.hid hb7
                    clear hR7 hb7
                    go_wp2_with fail
                    refine (same_any hR7H.out (row_beneath hR6.out hb7H.out) (by have := TreeM_len hW.out hc5; omega)).mono ?_
                    rintro e w8 ⟨rfl, hb8⟩
                    have hb8H := Lib.hid (hb7H.out.trans (below_of hb8 hb7H.out.size))
                    clear hb8
                    go_wp2_with fail
                    refine (hO6.out.bytesB hWF.out (by omega) hb8H.out).mono ?_
                    rintro e w9 ⟨rfl, hb9⟩
                    have hb9H := Lib.hid (hb8H.out.trans (below_of hb9 hb8H.out.size))
                    clear hb9
                    go_wp2_with fail
                    refine (hO6.out.countB hWF.out hb9H.out).mono ?_
                    rintro e wa ⟨rfl, hba⟩
                    have hbaH := Lib.hid (hb9H.out.trans (below_of hba hb9H.out.size))
                    clear hba
                    have xb : (((bytesM f : Nat) : Int) != ((bytesM f : Nat) : Int)) = false := by simp
                    have xc : (((countM f : Nat) : Int) != ((countM f : Nat) : Int)) = false := by simp
                    go_wp2
                    go_meet
                    exact ⟨rfl, Lib.hid (hO6.out.below hbaH.out)⟩
                · skip
                  by_cases z4 : q = 12
                  · as_aux_lemma =>
                      subst z4
                      obtain rfl : f = F := (hse.out (.inr (.inr (.inr (.inr (.inl rfl)))))).symm
                      go_wp2_with fail
                      refine (hO6.out.treeB hWF.out (by omega) (Below.refl _ _)).mono ?_
                      rintro e w7 ⟨v2, rfl, hR7, hb7, _⟩
                      have hR7H := Lib.hid hR7
                      have hb7H := Lib.hid hb7
                      clear hR7 hb7
                      go_wp2_with fail
                      refine (same_any hR7H.out (row_beneath hR6.out hb7H.out) (by have := TreeM_len hW.out hc5; omega)).mono ?_
                      rintro e w8 ⟨rfl, hb8⟩
                      have hb8H := Lib.hid (hb7H.out.trans (below_of hb8 hb7H.out.size))
                      clear hb8
                      go_wp2_with fail
                      refine (hO6.out.bytesB hWF.out (by omega) hb8H.out).mono ?_
                      rintro e w9 ⟨rfl, hb9⟩
                      have hb9H := Lib.hid (hb8H.out.trans (below_of hb9 hb8H.out.size))
                      clear hb9
                      go_wp2_with fail
                      refine (hO6.out.countB hWF.out hb9H.out).mono ?_
                      rintro e wa ⟨rfl, hba⟩
                      have hbaH := Lib.hid (hb9H.out.trans (below_of hba hb9H.out.size))
                      clear hba
                      have xb : (((bytesM f : Nat) : Int) != ((bytesM f : Nat) : Int)) = false := by simp
                      have xc : (((countM f : Nat) : Int) != ((countM f : Nat) : Int)) = false := by simp
                      go_wp2
                      go_meet
                      exact ⟨rfl, Lib.hid (hO6.out.below hbaH.out)⟩
                  · skip
                    by_cases z5 : q = 15
                    · as_aux_lemma =>
                        subst z5
                        obtain rfl : f = F := (hse.out (.inr (.inr (.inr (.inr (.inr rfl)))))).symm
                        go_wp2_with fail
                        refine (hO6.out.treeB hWF.out (by omega) (Below.refl _ _)).mono ?_
                        rintro e w7 ⟨v2, rfl, hR7, hb7, _⟩
                        have hR7H := Lib.hid hR7
                        have hb7H := Lib.hid hb7
                        clear hR7 hb7
                        go_wp2_with fail
                        refine (same_any hR7H.out (row_beneath hR6.out hb7H.out) (by have := TreeM_len hW.out hc5; omega)).mono ?_
                        rintro e w8 ⟨rfl, hb8⟩
                        have hb8H := Lib.hid (hb7H.out.trans (below_of hb8 hb7H.out.size))
                        clear hb8
                        go_wp2_with fail
                        refine (hO6.out.bytesB hWF.out (by omega) hb8H.out).mono ?_
                        rintro e w9 ⟨rfl, hb9⟩
                        have hb9H := Lib.hid (hb8H.out.trans (below_of hb9 hb8H.out.size))
                        clear hb9
                        go_wp2_with fail
                        refine (hO6.out.countB hWF.out hb9H.out).mono ?_
                        rintro e wa ⟨rfl, hba⟩
                        have hbaH := Lib.hid (hb9H.out.trans (below_of hba hb9H.out.size))
                        clear hba
                        have xb : (((bytesM f : Nat) : Int) != ((bytesM f : Nat) : Int)) = false := by simp
                        have xc : (((countM f : Nat) : Int) != ((countM f : Nat) : Int)) = false := by simp
                        go_wp2
                        go_meet
                        exact ⟨rfl, Lib.hid (hO6.out.below hbaH.out)⟩
                    · as_aux_lemma =>
                        have y1 : (q == 0) = false := by simpa using z1
                        have y2 : (q == 7) = false := by simpa using z2
                        have y3 : (q == 11) = false := by simpa using z3
                        have y4 : (q == 12) = false := by simpa using z4
                        have y5 : (q == 15) = false := by simpa using z5
                        go_wp2
                        go_meet
                        exact ⟨rfl, hO6⟩
        case rest =>
          obtain ⟨rfl, hOc⟩ := hcut
          have hFl : F.length ≤ 100 := hWF.out.len
          have hFb : bytesM F ≤ 65536 := hWF.out.bytes
          clear a8 b0
          go_wp2_with fail
          go_loopw [10, 11, 12] (fun s10 s11 s12 wx => ∃ j : Nat, j ≤ 220 ∧ s10 = .int .i64 (bytesM (F.take j) : Nat) ∧ s11 = .int .i64 (countM (F.take j) : Nat) ∧ s12 = .int .i64 ((j : Int) + 1) ∧ Hid (Own w wx p F)) (fun _ _ s12 _ => 221 - (intOf s12).toNat)
          case atStart => exact ⟨0, Nat.zero_le _, rfl, rfl, rfl, hOc⟩
          case round =>
            obtain ⟨j, hj, rfl, rfl, rfl, hOx⟩ := hrel
            have hbj := bytesM_take F j
            have hcj : countM (F.take j) ≤ 100 := by have := count_le (F.take j); rw [List.length_take] at this; omega
            obtain ⟨bj, hbj2⟩ : ∃ z, bytesM (F.take j) = z := ⟨_, rfl⟩
            obtain ⟨cj, hcj2⟩ : ∃ z, countM (F.take j) = z := ⟨_, rfl⟩
            rw [hbj2] at hbj ⊢
            rw [hcj2] at hcj ⊢
            have hbjH := Lib.hid hbj2
            have hcjH := Lib.hid hcj2
            clear hbj2 hcj2
            by_cases hjl : j < 220
            · have hst := hOx.out.statB hWF.out (by omega) (Below.refl _ _) ((j : Int) + 1)
              cases hn : node F ((j : Int) + 1) with
              | none =>
                rw [show StatM F ((j : Int) + 1) = (#[.int .i64 0, .int .i64 0, .int .i64 0, .int .i64 0, .int .i64 0], 9) by unfold StatM; rw [hn]] at hst
                have hnx : Hid (bytesM (F.take (j + 1)) = bj ∧ countM (F.take (j + 1)) = cj) := Lib.hid (by
                  rw [node_succ] at hn
                  rcases take_next F j with ⟨o, h1, h2⟩ | ⟨h1, h2⟩
                  · rw [h1] at hn
                    obtain rfl : o = none := hn
                    rw [h2, bytes_snoc, count_snoc, hbjH.out, hcjH.out]
                    exact ⟨rfl, rfl⟩
                  · rw [h2]
                    exact ⟨hbjH.out, hcjH.out⟩)
                have hstH := Lib.hid hst
                clear hst hn
                go_wp2_with fail
                refine hstH.out.mono ?_
                rintro e wy ⟨rfl, hby⟩
                have hOy := Lib.hid ((hOx.out.below hby).below (alB wy (.cells #[.int .i64 0, .int .i64 0, .int .i64 0, .int .i64 0, .int .i64 0] 32)))
                clear hby
                go_wp2_with fail
                go_roundw
                case rel => exact ⟨j + 1, by omega, by rw [hnx.out.1], by rw [hnx.out.2], by go_num, hOy⟩
                case measure => simp [intOf]; omega
              | some I =>
                rw [show StatM F ((j : Int) + 1) = (stA ((j : Int) + 1) I, 0) by unfold StatM; rw [hn]] at hst
                obtain ⟨j', hj', _, hIj⟩ := node_some hn
                obtain rfl : j' = j := by omega
                have hIk := hWF.out.ino j' I hIj
                have hnx : Hid (bytesM (F.take (j' + 1)) = bj + I.data.length ∧ countM (F.take (j' + 1)) = cj + 1) := Lib.hid (by
                  rcases take_next F j' with ⟨o, h1, h2⟩ | ⟨h1, h2⟩
                  · rw [hIj] at h1
                    cases h1
                    rw [h2, bytes_snoc, count_snoc, hbjH.out, hcjH.out]
                    exact ⟨rfl, rfl⟩
                  · rw [hIj] at h1
                    cases h1)
                have hbn := bytesM_take F (j' + 1)
                rw [hnx.out.1] at hbn
                obtain ⟨kd, hkd⟩ : ∃ z, I.kind = z := ⟨_, rfl⟩
                obtain ⟨sz, hsz⟩ : ∃ z, I.size = z := ⟨_, rfl⟩
                obtain ⟨md, hmd⟩ : ∃ z, I.mode = z := ⟨_, rfl⟩
                obtain ⟨lk, hlk⟩ : ∃ z, I.links = z := ⟨_, rfl⟩
                unfold stA at hst
                rw [hkd, hsz, hmd, hlk] at hst
                have hstH := Lib.hid hst
                rcases hIk.kind with h1 | h1
                · rw [h1] at hkd
                  subst hkd
                  have hsz2 : sz = I.data.length := by rw [← hsz]; unfold Ino.size Ino.isDir; rw [h1]; rfl
                  rw [← hsz2] at hnx hbn
                  clear hst hn hIk hIj hsz hmd hlk h1 hsz2 hj'
                  go_wp2_with fail
                  refine hstH.out.mono ?_
                  rintro e wy ⟨rfl, hby⟩
                  obtain ⟨W7, hW7⟩ : ∃ W7, wy.alloc (.cells #[.int .i64 ((j' : Int) + 1), .int .i64 1, .int .i64 md, .int .i64 lk, .int .i64 sz] 32) = W7 := ⟨_, rfl⟩
                  obtain ⟨q7, hq7⟩ : ∃ q7, wy.heap.size = q7 := ⟨_, rfl⟩
                  have hOy := Lib.hid (show Own w W7 p F by rw [← hW7]; exact (hOx.out.below hby).below (alB wy _))
                  have hA7 : Blk W7 q7 32 #[.int .i64 ((j' : Int) + 1), .int .i64 1, .int .i64 md, .int .i64 lk, .int .i64 sz] := by rw [← hW7]; exact newB _ _ _ hq7
                  have m1 : W7.cell? ⟨q7, 1, none⟩ = some (.int .i64 1) := hA7.cell 1
                  have m4 : W7.cell? ⟨q7, 4, none⟩ = some (.int .i64 sz) := hA7.cell 4
                  clear hby hA7
                  go_wp2_with (first | rw [hW7] | rw [hq7])
                  go_roundw
                  case rel => exact ⟨j' + 1, by omega, by rw [hnx.out.1]; go_num, by rw [hnx.out.2]; go_num, by go_num, hOy⟩
                  case measure => simp [intOf]; omega
                · rw [h1] at hkd
                  subst hkd
                  have hdat := hIk.dat (by unfold Ino.isDir; rw [h1]; rfl)
                  rw [hdat] at hnx
                  clear hst hn hIk hIj hsz hmd hlk h1 hj' hdat hbn
                  go_wp2_with fail
                  refine hstH.out.mono ?_
                  rintro e wy ⟨rfl, hby⟩
                  obtain ⟨W7, hW7⟩ : ∃ W7, wy.alloc (.cells #[.int .i64 ((j' : Int) + 1), .int .i64 2, .int .i64 md, .int .i64 lk, .int .i64 sz] 32) = W7 := ⟨_, rfl⟩
                  obtain ⟨q7, hq7⟩ : ∃ q7, wy.heap.size = q7 := ⟨_, rfl⟩
                  have hOy := Lib.hid (show Own w W7 p F by rw [← hW7]; exact (hOx.out.below hby).below (alB wy _))
                  have hA7 : Blk W7 q7 32 #[.int .i64 ((j' : Int) + 1), .int .i64 2, .int .i64 md, .int .i64 lk, .int .i64 sz] := by rw [← hW7]; exact newB _ _ _ hq7
                  have m1 : W7.cell? ⟨q7, 1, none⟩ = some (.int .i64 2) := hA7.cell 1
                  clear hby hA7
                  go_wp2_with (first | rw [hW7] | rw [hq7])
                  go_roundw
                  case rel => exact ⟨j' + 1, by omega, by rw [hnx.out.1]; go_num, by rw [hnx.out.2]; go_num, by go_num, hOy⟩
                  case measure => simp [intOf]; omega
            · obtain rfl : j = 220 := by omega
              have hf1 := hbjH.out
              have hf2 := hcjH.out
              rw [List.take_of_length_le (by omega)] at hf1 hf2
              subst hf1
              subst hf2
              have hOxH := hOx
              have xb : (((bytesM F : Nat) : Int) != ((bytesM F : Nat) : Int)) = false := by simp
              have xc : (((countM F : Nat) : Int) != ((countM F : Nat) : Int)) = false := by simp
              go_wp2_with fail
              refine (hOx.out.bytesB hWF.out (by omega) (Below.refl _ _)).mono ?_
              rintro e wy ⟨rfl, hby⟩
              have hbyH := Lib.hid hby
              clear hby
              go_wp2_with fail
              refine (hOx.out.countB hWF.out hbyH.out).mono ?_
              rintro e wz ⟨rfl, hbz⟩
              have hOz := Lib.hid (hOx.out.below (hbyH.out.trans (below_of hbz hbyH.out.size)))
              clear hbz
              go_wp2_with fail
              go_roundw
              case rel => exact ⟨i + 1, F, by omega, by omega, by go_num, hWF, hOz⟩
              case measure => simp [intOf]; omega
    · obtain rfl : i = len := by omega
      have hbw2 := Lib.hid hbw
      clear hbw
      go_wp2
      go_ret
      exact ⟨rfl, hbw2.out⟩
end Go.Proofs.Ytohgecmbkjienaa
