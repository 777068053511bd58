/- The walk of the law VarsRuns: true at every input. Condition: the reach of the names and lists. -/
import Derived.Test.YtklepnldoajghaaVarCW
import Derived.Deep.DeepCutAuto
import Derived.Deep.CutBlock
import Derived.Deep.RegionHeld3
namespace Go.Proofs.Ytklepnldoajghaa
open Go.RowKit Go.PlainAid
attribute [local go_sem] Oper.semAt_some

theorem info24 : (Try.prog.info? 24).map (fun i => (i.zero, i.size, i.bytes)) = some (some (.pointer none), 1, 8) := by kernel_rfl
theorem info26 : (Try.prog.info? 26).map (fun i => (i.zero, i.size, i.bytes)) = some (some (.pointer none), 1, 8) := by kernel_rfl
theorem below_in {w W w1 : World} {z : Nat} (hz : W.heap.size = z) (hg : (W.alloc (.cells #[] 9)).grownBy w1 (Value.slice (some ⟨z, 0, none⟩) 0 0).ownBlock) (hw : w = W) : Below z w w1 := by
  subst hw hz
  exact ⟨hg.os, hg.tape, hg.output, by have := hg.size; rw [World.size_alloc] at this; omega, fun k hk => (hg.block k (by rw [World.size_alloc]; omega) (fun e => by have e' : k = w.heap.size := Option.some.inj e; omega)).trans (Below.heap_alloc w _ k hk)⟩

set_option maxRecDepth 100000 in
set_option maxHeartbeats 16000000 in
theorem runs_walk (A : Option Addr) (len cap : Nat) (Q : List Cl) (w : World) (hQ : Q.length = len) (hC : ClsAt w A Q) (hz : ∀ q ∈ Q, q.name.size ≤ 140737488355328 ∧ q.args.length * 16 ≤ 140737488355328) (hlen : len ≤ maxLen) :
    Calls Try.prog 3 #[.slice A len cap] w fun e w' => e = .returned (.bool true) ∧ Below w.heap.size w w' := by
  obtain ⟨i0, hi0, hz0, hz1, hz2⟩ := info_parts info9
  obtain ⟨j0, hj0, hy0, hy1, hy2⟩ := info_parts info24
  obtain ⟨k0, hk0, hx0, hx1, hx2⟩ := info_parts info26
  obtain ⟨n₀, hn₀⟩ : ∃ n₀, w.heap.size = n₀ := ⟨_, rfl⟩
  rw [hn₀]
  have hnH := Lib.hid hn₀
  have hQH := Lib.hid hQ
  have hCH := Lib.hid hC
  have hzH := Lib.hid hz
  unfold maxLen at hlen
  clear hn₀ hQ hC hz
  go_enter Try.func3, Try.ntmps3
  go_wp2_with (go_at_call 8; refine (awake_any _).mono ?_; rintro e w1 ⟨rfl, hB1⟩; rw [hnH.out] at hB1; have hzz := hB1.size; rw [hnH.out] at hzz; have hB1H := Lib.hid hB1; clear hB1)
  refine (new_any w1.heap.size w1 (Nat.le_refl _)).mono ?_
  rintro e w2 ⟨rfl, hB2, hV2⟩
  obtain ⟨n₁, hn₁⟩ : ∃ n₁, w1.heap.size = n₁ := ⟨_, rfl⟩
  rw [hn₁] at hB2 hV2 hzz ⊢
  have hzw := hB2.size
  rw [hn₁] at hzw
  have hI0 : Inv n₀ n₁ w (w2.alloc (.cells #[.slice none 0 0, .slice none 0 0] 30)) n₁ w2.heap.size [] [] (.slice none 0 0) (.slice none 0 0) [] :=
    ⟨cur_new hV2 hzw, Olds.nil _ _ _, fun x hx => (by cases hx), (hB1H.out.trans (hB2.mono hzz)).alloc (by omega) _, hzz⟩
  have hI0H := Lib.hid hI0
  clear hB2 hV2 hI0 hn₁ hB1H
  go_upto_block 0 with fail
  generalize w2.alloc (.cells #[.slice none 0 0, .slice none 0 0] 30) = W0 at hI0H ⊢
  generalize w2.heap.size = q0 at hI0H ⊢
  clear hzw hzz
  go_cut [5, 6] (fun s5 s6 wx => ∃ (n₂ N : Nat) (a5 a6 : Option Addr) (c5 c6 : Nat) (X : List (Nat × Nat)), s5 = .slice a5 N c5 ∧ s6 = .slice a6 N c6 ∧ N ≤ 4 ∧ Hid (Olds n₀ n₂ wx (.slice a5 N c5) (.slice a6 N c6) X ∧ X.length = N ∧ Below n₀ w wx ∧ n₀ ≤ n₂ ∧ n₂ ≤ wx.heap.size))
  case first =>
    go_wp2_with fail
    go_loopw [3, 4, 5, 6, 25] (fun s3 s4 s5 s6 s25 wr => ∃ (k n₂ p q N : Nat) (a5 a6 : Option Addr) (c5 c6 : Nat) (X : List (Nat × Nat)) (L : Vl) (B : List ByteArray), k ≤ len ∧ k ≤ 150 ∧ s3 = .pointer (some ⟨p, 0, none⟩) ∧ s4 = .pointer (some ⟨q, 0, none⟩) ∧ s5 = .slice a5 N c5 ∧ s6 = .slice a6 N c6 ∧ s25 = .int .i64 k ∧ N ≤ 4 ∧ Hid (Inv n₀ n₂ w wr p q L B (.slice a5 N c5) (.slice a6 N c6) X ∧ X.length = N)) (fun _ _ _ _ s25 _ => len - (intOf s25).toNat)
    case atStart => exact ⟨0, n₁, n₁, q0, 0, none, none, 0, 0, [], [], [], Nat.zero_le _, Nat.zero_le _, rfl, rfl, rfl, rfl, rfl, Nat.zero_le _, ⟨hI0H.out, rfl⟩⟩
    case round =>
      obtain ⟨k, n₂, p, q, N, a5, a6, c5, c6, X, L, B, hk, hk2, rfl, rfl, rfl, rfl, rfl, hN4, hI⟩ := hrel
      clear hI0H
      by_cases hlt : k < len
      · obtain ⟨qc, hqc⟩ : ∃ q, Q[k]? = some q := ⟨_, List.getElem?_eq_getElem (by rw [hQH.out]; exact hlt)⟩
        obtain ⟨b, off, ca, cc, rfl, hbl, d0, d1, d2, d3, d4, d5, d6, hac, hls, hnb, hs1, hs2, hcm, _⟩ := hCH.out k qc hqc
        have tr : ∀ o v, w.cell? ⟨b, o, none⟩ = some v → wr.cell? ⟨b, o, none⟩ = some v := fun o v h => (hI.out.1.b.cell (p := ⟨b, o, none⟩) (by rw [← hnH.out]; exact hbl)).trans h
        have d0 := tr _ _ d0
        have d1 := tr _ _ d1
        have d2 := tr _ _ d2
        have d3 := tr _ _ d3
        have d4 := tr _ _ d4
        have d5 := tr _ _ d5
        have d6 := tr _ _ d6
        have hrx := hzH.out qc (List.mem_of_getElem? hqc)
        obtain ⟨what, num, name, val, ex, ro, K⟩ := qc
        have hi : (k : Int) < (len : Int) := by omega
        dsimp only at d0 d1 d2 d3 d4 d5 d6 hs1 hs2 hrx hac hls hnb
        obtain ⟨an, han⟩ : ∃ an, K.length = an := ⟨_, rfl⟩
        have hanH := Lib.hid han
        have hlsH := Lib.hid hls
        have hs1H := Lib.hid hs1
        have hs2H := Lib.hid hs2
        have hrxH := Lib.hid hrx
        have hcmH := Lib.hid (Nat.le_trans hac hcm)
        rw [han] at d6
        clear hqc hls han hac hcm hs1 hs2 hrx tr hbl
        by_cases h150 : k = 150
        · subst h150
          as_aux_lemma =>
            go_wp2_with fail
            go_meet
            have h := hI.out.1.call #[.int .i64 what, .int .i64 num, .string name, .string val, .bool ex, .bool ro, .slice ca an cc]
            exact ⟨n₂, N, a5, a6, c5, c6, X, rfl, rfl, hN4, h.o, hI.out.2, h.b, h.n, h.c.base⟩
        · have h150' : ¬ ((k : Int) = 150) := by omega
          obtain ⟨m, hm⟩ : ∃ m, wr.heap.size = m := ⟨_, rfl⟩
          obtain ⟨cs, hcs⟩ : ∃ cs : Array Value, cs = #[.int .i64 what, .int .i64 num, .string name, .string val, .bool ex, .bool ro, .slice ca an cc] := ⟨_, rfl⟩
          have hP0 := Lib.hid (show InvC n₀ n₂ w (wr.alloc (.cells #[.int .i64 what, .int .i64 num, .string name, .string val, .bool ex, .bool ro, .slice ca an cc] 34)) p q L B L B (.slice a5 N c5) (.slice a6 N c6) X m cs from by rw [hcs, ← hm]; exact hI.out.1.call _)
          have hXN := Lib.hid hI.out.2
          have hSz := Lib.hid hI.out.1.s
          have hcsH := Lib.hid hcs
          have hS := Lib.hid (fun (Z : World) (hB : Blk Z m 34 cs) => cells7 (by rw [hcs] at hB; exact hB))
          have hwrH : Hid (wr.heap.size = m) := Lib.hid hm
          have hlsZ := Lib.hid (fun (Z : World) (hB : Below n₀ w Z) => src_ls (hlsH.out.below (w' := Z) (by rw [hnH.out]; exact hB)))
          clear hlsH
          go_upto_block 2 with fail
          generalize wr.alloc (.cells #[.int .i64 what, .int .i64 num, .string name, .string val, .bool ex, .bool ro, .slice ca an cc] 34) = W at hP0 ⊢
          clear hI hcs hm hwrH d0 d1 d2 d3 d4 d5 d6
          go_cut [3, 4, 5, 6, 9, 10] (fun s3 s4 s5 s6 s9 s10 wx => ∃ (n₃ p q N : Nat) (a5 a6 : Option Addr) (c5 c6 : Nat) (X : List (Nat × Nat)) (L : Vl) (B : List ByteArray) (E : Int), s3 = .pointer (some ⟨p, 0, none⟩) ∧ s4 = .pointer (some ⟨q, 0, none⟩) ∧ s5 = .slice a5 N c5 ∧ s6 = .slice a6 N c6 ∧ s9 = .int .i64 E ∧ s10 = .int .i64 E ∧ N ≤ 4 ∧ Hid (InvC n₀ n₃ w wx p q L B L B (.slice a5 N c5) (.slice a6 N c6) X m cs ∧ X.length = N ∧ Szs L))
          case first =>
            obtain ⟨e0, e1, e2, e3, e4, e5, e6⟩ := hS.out W hP0.out.c.blk
            by_cases w0 : what = 0
            · subst w0
              as_aux_lemma =>
                have hSS := Lib.hid (fun (Z : World) (hB : Blk Z m 34 cs) => (show Z.cell? ⟨m, 2, none⟩ = some (.string name) ∧ Z.cell? ⟨m, 3, none⟩ = some (.string val) from by
                  obtain ⟨g0, g1, g2, g3, g4, g5, g6⟩ := hS.out Z hB
                  exact ⟨g2, g3⟩))
                have hd := Lib.hid hP0.out.drew
                go_wp2_with fail
                go_region_held3 (fun Z => Z.cell? ⟨m, 2, none⟩ = some (.string name) ∧ Z.cell? ⟨m, 3, none⟩ = some (.string val)) (first | exact hSS.out _ hd.out.c.blk | exact hSS.out _ hF.out.c.blk | exact hSS.out _ hP.out.c.blk | exact hSS.out _ hR.out.c.blk)
                  (first
                  | (go_at_call 10; refine (hR.out.step (cur_set name val hR.out.c hs1H.out)).mono ?_; rintro e w4 ⟨rfl, hF0⟩; have hF := Lib.hid hF0; clear hF0)
                  | (go_at_call 10; refine (hd.out.step (cur_set name val hd.out.c hs1H.out)).mono ?_; rintro e w4 ⟨rfl, hP1⟩; have hP := Lib.hid hP1; clear hP1)
                  | (go_at_call 11; refine (hP.out.step (cur_setR name val hP.out.c hs1H.out hs2H.out)).mono ?_; rintro e w5 ⟨rfl, hF0⟩; have hF := Lib.hid hF0; clear hF0)
                  | (go_at_call 11; refine (hd.out.step (cur_setR name val hd.out.c hs1H.out hs2H.out)).mono ?_; rintro e w5 ⟨rfl, hR1⟩; have hR := Lib.hid hR1; clear hR1))
                all_goals
                  go_wp2
                  go_meet
                  exact ⟨n₂, p, q, N, a5, a6, c5, c6, X, setR L name val, B, _, rfl, rfl, rfl, rfl, rfl, rfl, hN4, hF.out, hXN.out, hSz.out.set hP0.out.c.srt hrxH.out.1⟩
            · by_cases w1 : what = 1
              · subst w1
                as_aux_lemma =>
                  have hSS := Lib.hid (fun (Z : World) (hB : Blk Z m 34 cs) => (show Z.cell? ⟨m, 2, none⟩ = some (.string name) ∧ Z.cell? ⟨m, 2, none⟩ = some (.string name) from by
                    obtain ⟨g0, g1, g2, g3, g4, g5, g6⟩ := hS.out Z hB
                    exact ⟨g2, g2⟩))
                  have hd := Lib.hid hP0.out.drew
                  go_wp2_with fail
                  go_region_held3 (fun Z => Z.cell? ⟨m, 2, none⟩ = some (.string name) ∧ Z.cell? ⟨m, 2, none⟩ = some (.string name)) (first | exact hSS.out _ hd.out.c.blk | exact hSS.out _ hF.out.c.blk | exact hSS.out _ hP.out.c.blk | exact hSS.out _ hR.out.c.blk)
                    (first
                    | (go_at_call 12; refine (hR.out.step (cur_unset name hR.out.c hs1H.out)).mono ?_; rintro e w4 ⟨rfl, hF0⟩; have hF := Lib.hid hF0; clear hF0)
                    | (go_at_call 12; refine (hd.out.step (cur_unset name hd.out.c hs1H.out)).mono ?_; rintro e w4 ⟨rfl, hP1⟩; have hP := Lib.hid hP1; clear hP1)
                    | (go_at_call 13; refine (hP.out.step (cur_unsetR name hP.out.c hs1H.out)).mono ?_; rintro e w5 ⟨rfl, hF0⟩; have hF := Lib.hid hF0; clear hF0)
                    | (go_at_call 13; refine (hd.out.step (cur_unsetR name hd.out.c hs1H.out)).mono ?_; rintro e w5 ⟨rfl, hR1⟩; have hR := Lib.hid hR1; clear hR1))
                  all_goals
                    go_wp2
                    go_meet
                    exact ⟨n₂, p, q, N, a5, a6, c5, c6, X, unsetR L name, B, _, rfl, rfl, rfl, rfl, rfl, rfl, hN4, hF.out, hXN.out, hSz.out.unset hP0.out.c.srt⟩
              · by_cases w2 : what = 2
                · subst w2
                  as_aux_lemma =>
                    have hSS := Lib.hid (fun (Z : World) (hB : Blk Z m 34 cs) => (show Z.cell? ⟨m, 2, none⟩ = some (.string name) ∧ Z.cell? ⟨m, 4, none⟩ = some (.bool ex) ∧ Z.cell? ⟨m, 5, none⟩ = some (.bool ro) from by
                      obtain ⟨g0, g1, g2, g3, g4, g5, g6⟩ := hS.out Z hB
                      exact ⟨g2, g4, g5⟩))
                    have hd := Lib.hid hP0.out.drew
                    go_wp2_with fail
                    go_region_held3 (fun Z => Z.cell? ⟨m, 2, none⟩ = some (.string name) ∧ Z.cell? ⟨m, 4, none⟩ = some (.bool ex) ∧ Z.cell? ⟨m, 5, none⟩ = some (.bool ro)) (first | exact hSS.out _ hd.out.c.blk | exact hSS.out _ hF.out.c.blk | exact hSS.out _ hP.out.c.blk | exact hSS.out _ hR.out.c.blk)
                      (first
                      | (go_at_call 14; refine (hR.out.step (cur_mark name ex ro hR.out.c hs1H.out)).mono ?_; rintro e w4 ⟨rfl, hF0⟩; have hF := Lib.hid hF0; clear hF0)
                      | (go_at_call 14; refine (hd.out.step (cur_mark name ex ro hd.out.c hs1H.out)).mono ?_; rintro e w4 ⟨rfl, hP1⟩; have hP := Lib.hid hP1; clear hP1)
                      | (go_at_call 15; refine (hP.out.step (cur_markR name ex ro hP.out.c hs1H.out)).mono ?_; rintro e w5 ⟨rfl, hF0⟩; have hF := Lib.hid hF0; clear hF0)
                      | (go_at_call 15; refine (hd.out.step (cur_markR name ex ro hd.out.c hs1H.out)).mono ?_; rintro e w5 ⟨rfl, hR1⟩; have hR := Lib.hid hR1; clear hR1))
                    all_goals
                      go_wp2
                      go_meet
                      exact ⟨n₂, p, q, N, a5, a6, c5, c6, X, markR L name ex ro, B, _, rfl, rfl, rfl, rfl, rfl, rfl, hN4, hF.out, hXN.out, hSz.out.mark hP0.out.c.srt hrxH.out.1⟩
                · by_cases w3 : what = 3
                  · subst w3
                    as_aux_lemma =>
                      have hSS := Lib.hid (fun (Z : World) (hB : Blk Z m 34 cs) => (show Z.cell? ⟨m, 6, none⟩ = some (.slice ca an cc) ∧ Z.cell? ⟨m, 6, none⟩ = some (.slice ca an cc) from by
                        obtain ⟨g0, g1, g2, g3, g4, g5, g6⟩ := hS.out Z hB
                        exact ⟨g6, g6⟩))
                      have hm16 : an * 16 ≤ 140737488355328 := by have := hrxH.out.2; rw [hanH.out] at this; exact this
                      have hKl : (flat kcs K).length = an * 1 := by rw [flat_len kcs_len, hanH.out]
                      have hsrc := Lib.hid (src_beneath (hlsZ.out W hP0.out.b) ((Below.refl W.heap.size W).alloc (Nat.le_refl _) (.cells #[] 9)))
                      obtain ⟨z, hz⟩ : ∃ z, W.heap.size = z := ⟨_, rfl⟩
                      have hzH := Lib.hid hz
                      have hc6 : ∀ o, (W.alloc o).cell? ⟨m, 6, none⟩ = some (.slice ca an cc) := fun o => (cell_alloc o hP0.out.c.blk.lt).trans e6
                      go_wp2_with (at_builtin; refine wpList_app63 rfl _ _ 28 rfl z 9 i0 _ 1 16 Try.underlying28 hi0 hz0 hz1 hz2 rfl (by decide) _ 0 [] rfl (by have h := empty_row W W.heap.size 9 1 (Nat.le_refl _); rw [hzH.out] at h; exact h) ca an cc (flat kcs K) rfl hKl hsrc.out (flat_one kcs_one K) (by unfold maxLen; omega) (by omega) (by rw [World.size_alloc, hzH.out]; omega) ?_; intro a1 c1 w1 hr1 hg1 _; rw [Nat.zero_add, List.nil_append] at hr1; have hI1 := Lib.hid (hP0.out.made (K := K) (below_in rfl (by rw [hzH.out]; exact hg1) rfl) (by rw [hzH.out, hanH.out]; exact hr1)); obtain ⟨b1, b2, b3, b4, b5, b6, b7⟩ := hS.out w1 hI1.out.c.blk; clear hr1 hg1)
                      obtain ⟨sE, hsE⟩ : ∃ E, stE K = E := ⟨_, rfl⟩
                      obtain ⟨B1, hB1⟩ : ∃ B1, stA B K = B1 := ⟨_, rfl⟩
                      have hd := Lib.hid hI1.out.drew
                      have hKm := Lib.hid (show K.length ≤ maxLen by rw [hanH.out]; unfold maxLen; omega)
                      have hcP := Lib.hid (fun (Z : World) {L2 : Vl} {A2 : List ByteArray} (h : InvI n₀ n₂ w Z p q L B L2 A2 (.slice a5 N c5) (.slice a6 N c6) X m cs (.slice a1 an c1) K) => (show Calls Try.prog 16 #[.pointer (some ⟨p, 0, none⟩), .slice a1 an c1] Z fun e w' => e = .returned (.int .i64 sE) ∧ InvI n₀ n₂ w w' p q L B1 L2 A2 (.slice a5 N c5) (.slice a6 N c6) X m cs (.slice a1 an c1) K from by
                        rw [← hsE, ← hB1]
                        exact h.step (curI_setArgs h.c hKm.out)))
                      have hcR := Lib.hid (fun (Z : World) {L1 : Vl} {A1 : List ByteArray} (h : InvI n₀ n₂ w Z p q L1 A1 L B (.slice a5 N c5) (.slice a6 N c6) X m cs (.slice a1 an c1) K) => (show Calls Try.prog 17 #[.pointer (some ⟨q, 0, none⟩), .slice ca an cc] Z fun e w' => e = .returned (.int .i64 sE) ∧ InvI n₀ n₂ w w' p q L1 A1 L B1 (.slice a5 N c5) (.slice a6 N c6) X m cs (.slice a1 an c1) K from by
                        rw [← hsE, ← hB1]
                        have h := h.step (curI_setArgsR (a := ca) (c := cc) h.c hKm.out (hlsZ.out _ h.b))
                        rw [hanH.out] at h
                        exact h))
                      clear hsE hB1 hsrc hc6 e0 e1 e2 e3 e4 e5 e6 b1 b2 b3 b4 b5 b6
                      have b7' := b7
                      go_wp2_with fail
                      go_region_held3 (fun Z => Z.cell? ⟨m, 6, none⟩ = some (.slice ca an cc) ∧ Z.cell? ⟨m, 6, none⟩ = some (.slice ca an cc)) (first | exact hSS.out _ hd.out.c.blk | exact hSS.out _ hF.out.c.blk | exact hSS.out _ hP.out.c.blk | exact hSS.out _ hR.out.c.blk)
                        (first
                        | (go_at_call 16; refine (hcP.out _ hR.out).mono ?_; rintro e w4 ⟨rfl, hF0⟩; have hF := Lib.hid hF0; clear hF0)
                        | (go_at_call 16; refine (hcP.out _ hd.out).mono ?_; rintro e w4 ⟨rfl, hP1⟩; have hP := Lib.hid hP1; clear hP1)
                        | (go_at_call 17; refine (hcR.out _ hP.out).mono ?_; rintro e w5 ⟨rfl, hF0⟩; have hF := Lib.hid hF0; clear hF0)
                        | (go_at_call 17; refine (hcR.out _ hd.out).mono ?_; rintro e w5 ⟨rfl, hR1⟩; have hR := Lib.hid hR1; clear hR1))
                      all_goals
                        go_wp2_with fail
                        go_loopw [91] (fun s91 wr2 => ∃ (i : Nat) (K' : List ByteArray), i ≤ an ∧ s91 = .int .i64 i ∧ Hid (K'.length = an ∧ InvI n₀ n₂ w wr2 p q L B1 L B1 (.slice a5 N c5) (.slice a6 N c6) X m cs (.slice a1 an c1) K')) (fun s91 _ => an - (intOf s91).toNat)
                        case atStart => exact ⟨0, K, Nat.zero_le _, rfl, hanH.out, hF.out⟩
                        case round =>
                          obtain ⟨i, K', hi, rfl, hJ⟩ := hrel
                          clear hd hF b7 b7'
                          by_cases hil : i < an
                          · obtain ⟨g, rfl⟩ : ∃ g, a1 = some ⟨g, 0, none⟩ := by
                              obtain ⟨_, _, _, _, _, _, hr, _⟩ := hJ.out.2.c
                              rcases hr.2 with ⟨_, h0⟩ | ⟨g, cap, cur, e, _⟩
                              · have := hJ.out.1; omega
                              · exact ⟨g, by simp at e; exact e.1⟩
                            obtain ⟨⟨u0, t1⟩, t2, ⟨K2, hK2, hK3⟩, hK4⟩ := hJ.out.2.c.poke (k := i) (by rw [hJ.out.1]; exact hil) ⟨#[99, 104, 97, 110, 103, 101, 100]⟩
                            have hJ2 := Lib.hid (hJ.out.2.to hK3 hK4)
                            have hi1 : (i : Int) < (an : Int) := by omega
                            have hi0' : (0 : Int) ≤ (i : Int) := by omega
                            have hK2H := Lib.hid (hK2.trans hJ.out.1)
                            clear hK2 hK3 hK4
                            go_wp2_with fail
                            go_roundw
                            case rel => exact ⟨i + 1, K2, by omega, by go_num, hK2H.out, hJ2.out⟩
                            case measure => simp [intOf]; omega
                          · obtain rfl : i = an := by omega
                            go_wp2_with fail
                            go_meet
                            exact ⟨n₂, p, q, N, a5, a6, c5, c6, X, L, B1, sE, rfl, rfl, rfl, rfl, rfl, rfl, hN4, hJ.out.2.e, hXN.out, hSz.out⟩
                  · by_cases w4 : what = 4
                    · subst w4
                      as_aux_lemma =>
                        have hSS := Lib.hid (fun (Z : World) (hB : Blk Z m 34 cs) => (show Z.cell? ⟨m, 1, none⟩ = some (.int .i64 num) ∧ Z.cell? ⟨m, 1, none⟩ = some (.int .i64 num) from by
                          obtain ⟨g0, g1, g2, g3, g4, g5, g6⟩ := hS.out Z hB
                          exact ⟨g1, g1⟩))
                        have hd := Lib.hid hP0.out.drew
                        go_wp2_with fail
                        go_region_held3 (fun Z => Z.cell? ⟨m, 1, none⟩ = some (.int .i64 num) ∧ Z.cell? ⟨m, 1, none⟩ = some (.int .i64 num)) (first | exact hSS.out _ hd.out.c.blk | exact hSS.out _ hF.out.c.blk | exact hSS.out _ hP.out.c.blk | exact hSS.out _ hR.out.c.blk)
                          (first
                          | (go_at_call 18; refine (hR.out.step (cur_shift num hR.out.c)).mono ?_; rintro e w4 ⟨rfl, hF0⟩; have hF := Lib.hid hF0; clear hF0)
                          | (go_at_call 18; refine (hd.out.step (cur_shift num hd.out.c)).mono ?_; rintro e w4 ⟨rfl, hP1⟩; have hP := Lib.hid hP1; clear hP1)
                          | (go_at_call 19; refine (hP.out.step (cur_shiftR num hP.out.c)).mono ?_; rintro e w5 ⟨rfl, hF0⟩; have hF := Lib.hid hF0; clear hF0)
                          | (go_at_call 19; refine (hd.out.step (cur_shiftR num hd.out.c)).mono ?_; rintro e w5 ⟨rfl, hR1⟩; have hR := Lib.hid hR1; clear hR1))
                        all_goals
                          go_wp2
                          go_meet
                          exact ⟨n₂, p, q, N, a5, a6, c5, c6, X, L, shR B num, _, rfl, rfl, rfl, rfl, rfl, rfl, hN4, hF.out, hXN.out, hSz.out⟩
                    · by_cases w5 : what = 5
                      · subst w5
                        as_aux_lemma =>
                          obtain rfl : N = X.length := hXN.out.symm
                          by_cases hn : X.length < 4
                          · have hn' : (X.length : Int) < 4 := by omega
                            have hO := Lib.hid (old_of (n₀ := n₀) (k := W.heap.size) hP0.out.c hP0.out.n hSz.out (Nat.le_refl _))
                            have hbs := Lib.hid (Nat.le_trans hP0.out.n hP0.out.c.base)
                            clear e0 e1 e2 e3 e4 e5 e6
                            go_wp2_with (at_builtin; first
                              | (refine wpList_app rfl _ _ 31 rfl n₀ 24 j0 _ 1 8 Try.underlying31 hj0 hy0 hy1 hy2 rfl (by decide) _ X.length (flat pcs (X.map (·.1))) rfl (hP0.out.o.o.alloc _) (some ⟨W.heap.size, 0, none⟩) 1 1 (pcs p) rfl rfl (src_blk' (Blk.new W 24 #[.pointer (some ⟨p, 0, none⟩)])) (pcs_one p) (by omega) (by omega) (by rw [World.size_alloc]; have := hbs.out; omega) ?_; intro a1 c1 w1 hr1 hg1 _; have hr1H := Lib.hid hr1; have hg1H := Lib.hid hg1; clear hr1 hg1)
                              | (refine wpList_app rfl _ _ 32 rfl n₀ 26 k0 _ 1 8 Try.underlying32 hk0 hx0 hx1 hx2 rfl (by decide) _ X.length (flat pcs (X.map (·.2))) rfl ((row_grown (hP0.out.o.r.alloc _) (hP0.out.o.o.alloc _) (by decide) hg1H.out).alloc _) (some ⟨w1.heap.size, 0, none⟩) 1 1 (pcs q) rfl rfl (src_blk' (Blk.new w1 26 #[.pointer (some ⟨q, 0, none⟩)])) (pcs_one q) (by omega) (by omega) (by have h1 := hg1H.out.size; rw [World.size_alloc] at h1 ⊢; have := hbs.out; omega) ?_; intro a2 c2 w2 hr2 hg2 _; have hr2H := Lib.hid hr2; have hg2H := Lib.hid hg2; clear hr2 hg2))
                            obtain ⟨p1, p2, p3, p4, p5⟩ := hP0.out.o.push hn hO.out (Nat.le_refl _) hP0.out.c.base hP0.out.n hP0.out.c.blk hr1H.out hg1H.out hr2H.out hg2H.out
                            have p1H := Lib.hid p1
                            have p2H := Lib.hid p2
                            have p3H := Lib.hid p3
                            have p4H := Lib.hid p4
                            have p5H := Lib.hid p5
                            clear p1 p2 p3 p4 p5 hr1H hg1H hr2H hg2H
                            refine (copy_old p2H.out).mono ?_
                            rintro e w3 ⟨p', rfl, hv3, hb3⟩
                            have hv3H := Lib.hid hv3
                            have hb3H := Lib.hid hb3
                            clear hv3 hb3
                            go_wp2_with fail
                            refine (copyR_old (p2H.out.below hb3H.out)).mono ?_
                            rintro e w4 ⟨q', rfl, hr4, hb4⟩
                            have hr4H := Lib.hid hr4
                            have hb4H := Lib.hid hb4
                            clear hr4 hb4
                            go_wp2_with fail
                            go_meet
                            have hb34 : Below w2.heap.size w2 w4 := hb3H.out.trans (hb4H.out.mono hb3H.out.size)
                            exact ⟨w2.heap.size, p', q', X.length + 1, _, _, _, _, X ++ [(p, q)], L, B, 0, rfl, rfl, rfl, rfl, rfl, rfl, by omega, ⟨cur_copied hv3H.out hr4H.out hb3H.out hb4H.out p3H.out, p1H.out.below hb34, (hP0.out.b.trans p4H.out).trans (hb34.mono (Nat.le_trans hbs.out p5H.out)), Nat.le_trans hbs.out p5H.out⟩, by rw [List.length_append]; rfl, hSz.out⟩
                          · have hn' : ¬ (X.length : Int) < 4 := by omega
                            go_wp2
                            go_meet
                            exact ⟨n₂, p, q, X.length, a5, a6, c5, c6, X, L, B, 0, rfl, rfl, rfl, rfl, rfl, rfl, hN4, hP0.out, rfl, hSz.out⟩
                      · as_aux_lemma =>
                          have w0' : (what == 0) = false := by simpa using w0
                          have w1' : (what == 1) = false := by simpa using w1
                          have w2' : (what == 2) = false := by simpa using w2
                          have w3' : (what == 3) = false := by simpa using w3
                          have w4' : (what == 4) = false := by simpa using w4
                          have w5' : (what == 5) = false := by simpa using w5
                          go_wp2
                          go_meet
                          exact ⟨n₂, p, q, N, a5, a6, c5, c6, X, L, B, _, rfl, rfl, rfl, rfl, rfl, rfl, hN4, hP0.out, hXN.out, hSz.out⟩
          case rest =>
            obtain ⟨n₃, p', q', N', a5', a6', c5', c6', X', L', B', E, rfl, rfl, rfl, rfl, rfl, rfl, hN', hIc⟩ := hcut
            obtain ⟨e0, e1, e2, e3, e4, e5, e6⟩ := hS.out wc hIc.out.1.c.blk
            as_aux_lemma =>
              clear hP0 hXN hSz e0 e1 e3 e4 e5 e6 hN4 hlsZ
              go_wp2_with fail
              refine (hIc.out.1.tell (cur_get name hIc.out.1.c)).mono ?_
              rintro e w7 ⟨rfl, h7⟩
              have h7H := Lib.hid h7
              obtain ⟨b0, b1, b2, b3, b4, b5, b6⟩ := hS.out w7 h7.c.blk
              clear h7 e2 b0 b1 b3 b4 b5 b6
              go_wp2_with fail
              refine (h7H.out.tell (cur_getR name h7H.out.c)).mono ?_
              rintro e w8 ⟨rfl, h8⟩
              have h8H := Lib.hid h8
              clear h8 b2
              obtain ⟨gv, hgv⟩ : ∃ gv, (got L' name).val = gv := ⟨_, rfl⟩
              obtain ⟨gs, hgs⟩ : ∃ gs, (got L' name).st = gs := ⟨_, rfl⟩
              rw [hgv, hgs]
              clear hgv hgs
              go_wp2_with fail
              refine (h8H.out.tell (cur_same h8H.out.c hIc.out.2.2)).mono ?_
              rintro e w9 ⟨rfl, h9⟩
              have h9H := Lib.hid h9
              clear h9
              go_wp2_with fail
              go_roundw
              case rel => exact ⟨k + 1, n₃, p', q', N', a5', a6', c5', c6', X', L', B', by omega, by omega, rfl, rfl, rfl, rfl, by go_num, hN', h9H.out.z hIc.out.2.2, hIc.out.2.1⟩
              case measure => simp [intOf]; omega
      · obtain rfl : k = len := by omega
        as_aux_lemma =>
          go_wp2_with fail
          go_meet
          have h := hI.out.1
          have hzz : n₂ ≤ wr.heap.size := by obtain ⟨_, _, _, _, _, _, _, _, _, hz⟩ := h.z; exact hz
          exact ⟨n₂, N, a5, a6, c5, c6, X, rfl, rfl, hN4, h.o, hI.out.2, h.b, h.n, hzz⟩
  case rest =>
    obtain ⟨n₂, N, a5, a6, c5, c6, X, rfl, rfl, hN4, hO⟩ := hcut
    go_wp2_with fail
    go_loopw [161] (fun s161 wr => ∃ k : Nat, k ≤ N ∧ s161 = .int .i64 k ∧ Hid (Olds n₀ n₂ wr (.slice a5 N c5) (.slice a6 N c6) X ∧ Below n₀ w wr ∧ n₂ ≤ wr.heap.size)) (fun s161 _ => N - (intOf s161).toNat)
    case atStart => exact ⟨0, Nat.zero_le _, rfl, ⟨hO.out.1, hO.out.2.2.1, hO.out.2.2.2.2⟩⟩
    case round =>
      obtain ⟨k, hk, rfl, hI⟩ := hrel
      by_cases hlt : k < N
      · obtain ⟨⟨x1, x2⟩, hx⟩ : ∃ x, X[k]? = some x := ⟨_, List.getElem?_eq_getElem (by rw [hO.out.2.1]; exact hlt)⟩
        have hSS : ∀ Z, Olds n₀ n₂ Z (.slice a5 N c5) (.slice a6 N c6) X → ∃ g1 g2, a5 = some ⟨g1, 0, none⟩ ∧ a6 = some ⟨g2, 0, none⟩ ∧ Z.cell? ⟨g1, k, none⟩ = some (.pointer (some ⟨x1, 0, none⟩)) ∧ Z.cell? ⟨g2, k, none⟩ = some (.pointer (some ⟨x2, 0, none⟩)) := fun Z h => by
          have r1 := h.o
          have r2 := h.r
          rw [← List.length_map (f := fun x : Nat × Nat => x.1)] at r1
          rw [← List.length_map (f := fun x : Nat × Nat => x.2)] at r2
          obtain ⟨g1, q1, e1, _, h1, _, _⟩ := row_at pcs_len r1 (i := k) (x := x1) (by rw [List.getElem?_map, hx]; rfl)
          obtain ⟨g2, q2, e2, _, h2, _, _⟩ := row_at pcs_len r2 (i := k) (x := x2) (by rw [List.getElem?_map, hx]; rfl)
          have t1 := h1 0 _ rfl
          have t2 := h2 0 _ rfl
          rw [Nat.mul_one] at t1 t2
          exact ⟨g1, g2, by simp at e1; exact e1.1, by simp at e2; exact e2.1, t1, t2⟩
        obtain ⟨g1, g2, rfl, rfl, f1, f2⟩ := hSS wr hI.out.1
        have hSH := Lib.hid (fun (Z : World) (h : Olds n₀ n₂ Z (.slice (some ⟨g1, 0, none⟩) N c5) (.slice (some ⟨g2, 0, none⟩) N c6) X) => (show Z.cell? ⟨g1, k, none⟩ = some (.pointer (some ⟨x1, 0, none⟩)) ∧ Z.cell? ⟨g2, k, none⟩ = some (.pointer (some ⟨x2, 0, none⟩)) from by
          obtain ⟨g1', g2', e1, e2, t1, t2⟩ := hSS Z h
          obtain rfl : g1 = g1' := by simpa using e1
          obtain rfl : g2 = g2' := by simpa using e2
          exact ⟨t1, t2⟩))
        have hmem := Lib.hid (List.mem_of_getElem? hx)
        have hd : Hid (Olds n₀ n₂ wr.drew (.slice (some ⟨g1, 0, none⟩) N c5) (.slice (some ⟨g2, 0, none⟩) N c6) X) := Lib.hid (hI.out.1.below (((Below.refl wr.heap.size wr).drew).mono hI.out.2.2))
        have hk1 : (k : Int) < (N : Int) := by omega
        have hk0 : (0 : Int) ≤ (k : Int) := by omega
        clear hSS hx hO
        go_wp2_with fail
        go_region_held3 (fun Z => Z.cell? ⟨g1, k, none⟩ = some (.pointer (some ⟨x1, 0, none⟩)) ∧ Z.cell? ⟨g2, k, none⟩ = some (.pointer (some ⟨x2, 0, none⟩))) (first | exact hSH.out _ hd.out | exact hSH.out _ hF.out)
          ((go_at_call 24; refine (old_same (hd.out.all _ hmem.out)).mono ?_; rintro e w4 ⟨rfl, hb⟩; have hF := Lib.hid (hd.out.below (hb.mono hI.out.2.2)); have hbH := Lib.hid hb; clear hb))
        all_goals
          go_wp2_with fail
          go_roundw
          case rel => exact ⟨k + 1, by omega, by go_num, hF.out, (hI.out.2.1.trans (((Below.refl wr.heap.size wr).drew.trans hbH.out).mono (by have := hI.out.2.1.size; rw [hnH.out] at this; exact this))), Nat.le_trans hI.out.2.2 hbH.out.size⟩
          case measure => simp [intOf]; omega
      · obtain rfl : k = N := by omega
        go_wp2_with fail
        go_ret
        exact ⟨rfl, hI.out.2.1⟩

theorem varsRuns_w (A : Option Addr) (len cap : Nat) (w : World) (h : (∃ Q : List Cl, Q.length = len ∧ ClsAt w A Q ∧ ∀ q ∈ Q, q.name.size ≤ 140737488355328 ∧ q.args.length * 16 ≤ 140737488355328) ∧ len ≤ maxLen) :
    Calls Try.prog 3 #[.slice A len cap] w fun e w' => e = .returned (.bool true) ∧ Below w.heap.size w w' := by
  obtain ⟨⟨Q, h1, h2, h3⟩, h4⟩ := h
  exact runs_walk A len cap Q w h1 h2 h3 h4
end Go.Proofs.Ytklepnldoajghaa
