/- The walk of the law TableRuns: true at every input. No condition. -/
import Derived.Test.YtifoanmoadogoaaTabT
import Derived.Deep.DeepCutAuto
import Derived.Deep.CutBlock
import Derived.Deep.RegionHeld3
namespace Go.Proofs.Ytifoanmoadogoaa
open Go.RowKit
attribute [local go_sem] Oper.semAt_some

theorem info54 : (Try.prog.info? 54).map (fun i => (i.zero, i.size, i.bytes)) = some (some (.pointer none), 1, 8) := by kernel_rfl
theorem info56 : (Try.prog.info? 56).map (fun i => (i.zero, i.size, i.bytes)) = some (some (.pointer none), 1, 8) := by kernel_rfl
theorem zero61' (w : World) : (zeroValue 61).run Try.prog w = .ok (.agg rZero) w := zero61 w
theorem one_ptr {W : World} {t : TypeId} {p : Nat} : ∀ j u, ([.pointer (some ⟨p, 0, none⟩)] : List Value)[j]? = some u → (W.alloc (.cells #[.pointer (some ⟨p, 0, none⟩)] t)).cell? ((⟨W.heap.size, 0, none⟩ : Addr).add j) = some u := fun j u hj => by
  cases j with
  | zero =>
    obtain rfl : (.pointer (some ⟨p, 0, none⟩) : Value) = u := by simpa using hj
    rw [Addr.add_lit]
    exact (Blk.new W t #[.pointer (some ⟨p, 0, none⟩)]).cell 0
  | succ j => simp at hj
theorem inv_new {n₀ T : Nat} {w0 w : World} (h : TabAt w T (fun _ => Sl.none)) (hb : Below n₀ w0 w) (hT : n₀ ≤ T) : InvT n₀ w0 (w.alloc (.cells rZero 61)) T w.heap.size (fun _ => Sl.none) (fun _ => Sl.none) (.slice none 0 0) (.slice none 0 0) [] := by
  have hl := h.lt
  exact ⟨h.keep (Below.heap_alloc _ _ _ hl), r_made w _, ⟨World.ownsRow_nil _ _ _ _, World.ownsRow_nil _ _ _ _, fun g hg => (by cases hg), fun g hg => (by cases hg), fun x hx => (by cases hx), Nat.zero_le _⟩, hb.alloc (by omega) _, hT, by omega⟩

theorem InvU.kept {n₀ T R m : Nat} {w0 w w1 w2 : World} {f : Nat → Sl} {ov rv : Value} {X : List (Nat × Nat)} {c x d : Int} {b : Bool} (h : InvU n₀ w0 w T R f f ov rv X m c x d b)
    (g1 : ((w.alloc (.cells (rArr f) 61)).alloc (.cells #[.pointer (some ⟨T, 0, none⟩)] 54)).grownBy w1 ov.ownBlock) (g2 : (w1.alloc (.cells #[.pointer (some ⟨R, 0, none⟩)] 56)).grownBy w2 rv.ownBlock) : TabAt w2 T f := by
  have hA := h.below ((((Below.refl w.heap.size w).alloc (Nat.le_refl _) (.cells (rArr f) 61))).alloc (by simp) (.cells #[.pointer (some ⟨T, 0, none⟩)] 54))
  have t1 := hA.i.t.keep (grown_keep hA.i.o.o (fun g hg => ne_map (hA.i.o.on g hg)) g1 _ hA.i.t.lt hA.i.t.nop)
  have rB : (w1.alloc (.cells #[.pointer (some ⟨R, 0, none⟩)] 56)).ownsRow n₀ 56 1 rv X.length ((X.map (·.2)).map fun x => .pointer (some ⟨x, 0, none⟩)) := (row_grown2 hA.i.o.r hA.i.o.o (by decide) g1).alloc _
  have t2 := t1.keep (w' := w1.alloc (.cells #[.pointer (some ⟨R, 0, none⟩)] 56)) (Below.heap_alloc _ _ _ t1.lt)
  exact t2.keep (grown_keep rB (fun g hg => ne_map (h.i.o.rn g hg)) g2 _ t2.lt t2.nop)

set_option maxRecDepth 100000 in
set_option maxHeartbeats 16000000 in
theorem truns_walk (A : Option Addr) (len cap : Nat) (w : World) (hC : CallsT w.heap.size w A len) (hlen : len ≤ maxLen) :
    Calls Try.prog 6 #[.slice A len cap] w fun e w' => e = .returned (.bool true) ∧ Below w.heap.size w w' := by
  obtain ⟨i0, hi0, hz0, hz1, hz2⟩ := info_parts info54
  obtain ⟨j0, hj0, hy0, hy1, hy2⟩ := info_parts info56
  obtain ⟨n₀, hn₀⟩ : ∃ n₀, w.heap.size = n₀ := ⟨_, rfl⟩
  rw [hn₀] at hC ⊢
  have hnH := Lib.hid hn₀
  have hCH := Lib.hid hC
  unfold maxLen at hlen
  clear hn₀ hC
  have hz61 := zero61
  go_enter Try.func6, Try.ntmps6
  go_wp2_with (go_at_call 24; refine (tawake_any _).mono ?_; rintro e w1 ⟨rfl, hB1⟩; rw [hnH.out] at hB1; have hzz := hB1.size; rw [hnH.out] at hzz; have hB1H := Lib.hid hB1; clear hB1)
  refine (tnew_any w1).mono ?_
  rintro e w2 ⟨rfl, hT2, hB2⟩
  have hI0 := Lib.hid (inv_new hT2 (hB1H.out.trans (hB2.mono hzz)) hzz)
  clear hB2 hT2 hB1H
  obtain ⟨T0, hT0⟩ : ∃ T0, w1.heap.size = T0 := ⟨_, rfl⟩
  rw [hT0] at hI0 ⊢
  clear hT0 hzz
  go_upto_block 0 with fail
  generalize w2.alloc (.cells rZero 61) = W0 at hI0 ⊢
  generalize w2.heap.size = R0 at hI0 ⊢
  clear hz61
  go_cut [5, 6] (fun s5 s6 wx => ∃ (N T R : Nat) (a5 a6 : Option Addr) (c5 c6 : Nat) (X : List (Nat × Nat)), s5 = .slice a5 N c5 ∧ s6 = .slice a6 N c6 ∧ N ≤ 5 ∧ Hid (Olt n₀ wx T R (.slice a5 N c5) (.slice a6 N c6) X ∧ X.length = N ∧ Below n₀ w wx ∧ n₀ ≤ wx.heap.size))
  case first =>
    go_wp2_with fail
    go_loopw [3, 4, 5, 6, 39] (fun s3 s4 s5 s6 s39 wr => ∃ (k T R N : Nat) (a5 a6 : Option Addr) (c5 c6 : Nat) (X : List (Nat × Nat)) (f : Nat → Sl), k ≤ len ∧ k ≤ 200 ∧ s3 = .pointer (some ⟨T, 0, none⟩) ∧ s4 = .pointer (some ⟨R, 0, none⟩) ∧ s5 = .slice a5 N c5 ∧ s6 = .slice a6 N c6 ∧ s39 = .int .i64 k ∧ N ≤ 5 ∧ Hid (InvT n₀ w wr T R f f (.slice a5 N c5) (.slice a6 N c6) X ∧ X.length = N)) (fun _ _ _ _ s39 _ => len - (intOf s39).toNat)
    case atStart => exact ⟨0, T0, R0, 0, none, none, 0, 0, [], _, Nat.zero_le _, Nat.zero_le _, rfl, rfl, rfl, rfl, rfl, Nat.zero_le _, hI0.out, rfl⟩
    case round =>
      obtain ⟨k, T, R, N, a5, a6, c5, c6, X, f, hk, hk2, rfl, rfl, rfl, rfl, rfl, hN5, hI⟩ := hrel
      clear hI0
      by_cases hlt : k < len
      · obtain ⟨bb, off, what, x, d, o, rfl, hbl, d0, d1, d2, d3⟩ := (hCH.out.below hI.out.1.b) k hlt
        have hi : (k : Int) < (len : Int) := by omega
        clear hbl
        by_cases h200 : k = 200
        · subst h200
          as_aux_lemma =>
            go_wp2_with fail
            go_meet
            have h := (hI.out.1.call what x d o).i
            exact ⟨N, T, R, a5, a6, c5, c6, X, rfl, rfl, hN5, h.o, hI.out.2, h.b, h.size⟩
        · have h200' : ¬ ((k : Int) = 200) := by omega
          obtain ⟨m, hm⟩ : ∃ m, wr.heap.size = m := ⟨_, rfl⟩
          have hP := Lib.hid (show InvU n₀ w (wr.alloc (.cells #[.int .i64 what, .int .i64 x, .int .i64 d, .bool o] 65)) T R f f (.slice a5 N c5) (.slice a6 N c6) X m what x d o from by rw [← hm]; exact hI.out.1.call what x d o)
          have hXN := Lib.hid hI.out.2
          go_upto_block 2 with fail
          generalize wr.alloc (.cells #[.int .i64 what, .int .i64 x, .int .i64 d, .bool o] 65) = W at hP ⊢
          clear hI hm d0 d1 d2 d3
          go_cut [3, 4, 5, 6] (fun s3 s4 s5 s6 wx => ∃ (T R N : Nat) (a5 a6 : Option Addr) (c5 c6 : Nat) (X : List (Nat × Nat)) (f : Nat → Sl), s3 = .pointer (some ⟨T, 0, none⟩) ∧ s4 = .pointer (some ⟨R, 0, none⟩) ∧ s5 = .slice a5 N c5 ∧ s6 = .slice a6 N c6 ∧ N ≤ 5 ∧ Hid (InvU n₀ w wx T R f f (.slice a5 N c5) (.slice a6 N c6) X m what x d o ∧ X.length = N))
          case first =>
            obtain ⟨e0, e1, e2, e3⟩ := hP.out.cells
            by_cases w0 : what = 0
            · subst w0
              as_aux_lemma =>
                obtain ⟨a, er, f', hp, hr⟩ := put_both f x d
                have hpH := Lib.hid hp
                have hrH := Lib.hid hr
                clear hp hr
                go_wp2_with fail
                refine (hP.out.prog hpH.out).mono ?_
                rintro e w4 ⟨rfl, h4⟩
                have h4H := Lib.hid h4
                obtain ⟨q0, q1, q2, q3⟩ := h4.cells
                clear h4 e0 e1 e2 e3
                go_wp2_with fail
                refine (h4H.out.ref hrH.out).mono ?_
                rintro e w5 ⟨rfl, h5⟩
                have h5H := Lib.hid h5
                clear h5 q0 q1 q2 q3
                go_wp2_with fail
                go_meet
                exact ⟨T, R, N, a5, a6, c5, c6, X, f', rfl, rfl, rfl, rfl, hN5, h5H.out, hXN.out⟩
            · by_cases w1 : what = 1
              · subst w1
                as_aux_lemma =>
                  obtain ⟨a, bb, er, f', hp, hr⟩ := set_both f d x
                  have hpH := Lib.hid hp
                  have hrH := Lib.hid hr
                  clear hp hr
                  go_wp2_with fail
                  refine (hP.out.prog hpH.out).mono ?_
                  rintro e w4 ⟨rfl, h4⟩
                  have h4H := Lib.hid h4
                  obtain ⟨q0, q1, q2, q3⟩ := h4.cells
                  clear h4 e0 e1 e2 e3
                  go_wp2_with fail
                  refine (h4H.out.ref hrH.out).mono ?_
                  rintro e w5 ⟨rfl, h5⟩
                  have h5H := Lib.hid h5
                  clear h5 q0 q1 q2 q3
                  go_wp2_with fail
                  go_meet
                  exact ⟨T, R, N, a5, a6, c5, c6, X, f', rfl, rfl, rfl, rfl, hN5, h5H.out, hXN.out⟩
              · by_cases w2 : what = 2
                · subst w2
                  as_aux_lemma =>
                    obtain ⟨a, er, hp, hr⟩ := get_both f d
                    have hpH := Lib.hid hp
                    have hrH := Lib.hid hr
                    clear hp hr
                    go_wp2_with fail
                    refine (hP.out.prog hpH.out).mono ?_
                    rintro e w4 ⟨rfl, h4⟩
                    have h4H := Lib.hid h4
                    obtain ⟨q0, q1, q2, q3⟩ := h4.cells
                    clear h4 e0 e1 e2 e3
                    go_wp2_with fail
                    refine (h4H.out.ref hrH.out).mono ?_
                    rintro e w5 ⟨rfl, h5⟩
                    have h5H := Lib.hid h5
                    clear h5 q0 q1 q2 q3
                    go_wp2_with fail
                    go_meet
                    exact ⟨T, R, N, a5, a6, c5, c6, X, f, rfl, rfl, rfl, rfl, hN5, h5H.out, hXN.out⟩
                · by_cases w3 : what = 3
                  · subst w3
                    as_aux_lemma =>
                      obtain ⟨a, er, f', hp, hr⟩ := cut_both f d
                      have hpH := Lib.hid hp
                      have hrH := Lib.hid hr
                      clear hp hr
                      go_wp2_with fail
                      refine (hP.out.prog hpH.out).mono ?_
                      rintro e w4 ⟨rfl, h4⟩
                      have h4H := Lib.hid h4
                      obtain ⟨q0, q1, q2, q3⟩ := h4.cells
                      clear h4 e0 e1 e2 e3
                      go_wp2_with fail
                      refine (h4H.out.ref hrH.out).mono ?_
                      rintro e w5 ⟨rfl, h5⟩
                      have h5H := Lib.hid h5
                      clear h5 q0 q1 q2 q3
                      go_wp2_with fail
                      go_meet
                      exact ⟨T, R, N, a5, a6, c5, c6, X, f', rfl, rfl, rfl, rfl, hN5, h5H.out, hXN.out⟩
                  · by_cases w4 : what = 4
                    · subst w4
                      as_aux_lemma =>
                        obtain ⟨er, f', hp, hr⟩ := mark_both f d o
                        have hpH := Lib.hid hp
                        have hrH := Lib.hid hr
                        clear hp hr
                        have hS := Lib.hid (fun (Z : World) {f g : Nat → Sl} (h : InvU n₀ w Z T R f g (.slice a5 N c5) (.slice a6 N c6) X m 4 x d o) => (show Z.cell? ⟨m, 2, none⟩ = some (.int .i64 d) ∧ Z.cell? ⟨m, 3, none⟩ = some (.bool o) from ⟨h.cells.2.2.1, h.cells.2.2.2⟩))
                        have hd := Lib.hid hP.out.drew
                        go_wp2_with fail
                        go_region_held3 (fun Z => Z.cell? ⟨m, 2, none⟩ = some (.int .i64 d) ∧ Z.cell? ⟨m, 3, none⟩ = some (.bool o)) (first | exact hS.out _ hd.out | exact hS.out _ hF.out | exact hS.out _ hA.out | exact hS.out _ hB.out)
                          (first
                          | (go_at_call 34; refine (hB.out.prog hpH.out).mono ?_; rintro e w4 ⟨rfl, h4⟩; have hF := Lib.hid h4; clear h4)
                          | (go_at_call 34; refine (hd.out.prog hpH.out).mono ?_; rintro e w4 ⟨rfl, h4⟩; have hA := Lib.hid h4; clear h4)
                          | (go_at_call 35; refine (hA.out.ref hrH.out).mono ?_; rintro e w5 ⟨rfl, h5⟩; have hF := Lib.hid h5; clear h5)
                          | (go_at_call 35; refine (hd.out.ref hrH.out).mono ?_; rintro e w5 ⟨rfl, h5⟩; have hB := Lib.hid h5; clear h5))
                        all_goals
                          go_wp2_with fail
                          go_meet
                          exact ⟨T, R, N, a5, a6, c5, c6, X, f', rfl, rfl, rfl, rfl, hN5, hF.out, hXN.out⟩
                    · by_cases w5 : what = 5
                      · subst w5
                        as_aux_lemma =>
                          clear e0 e1 e2 e3
                          go_wp2_with fail
                          refine hP.out.exec.mono ?_
                          rintro e w4 ⟨v1, rfl, hr1, h4⟩
                          have hRz : R < W.heap.size := hP.out.i.r.lt
                          obtain ⟨ls, hls⟩ : ∃ ls, lsP f (upto f 32) = ls := ⟨_, rfl⟩
                          obtain ⟨f', hf'⟩ : ∃ f', gP f (upto f 32) = f' := ⟨_, rfl⟩
                          have hll : ls.length ≤ 32 := by rw [← hls]; exact lsP_len (List.prefix_refl _)
                          rw [hls] at hr1
                          rw [hf'] at h4
                          have h4H := Lib.hid h4
                          have hr1H := Lib.hid hr1
                          have hlsH := Lib.hid hls
                          have hfH := Lib.hid hf'
                          obtain ⟨b1, q1, rfl⟩ := ownsRow_slice hr1
                          clear h4 hr1 hls hf'
                          go_wp2_with fail
                          refine (h4H.out.rexec hr1H.out hRz).mono ?_
                          rintro e w5 ⟨v2, rfl, hr2, hr1', h5⟩
                          rw [hlsH.out] at hr2
                          rw [hfH.out] at h5
                          obtain ⟨b2, q2, rfl⟩ := ownsRow_slice hr2
                          have h5H := Lib.hid h5
                          have hr2H := Lib.hid hr2
                          have hr3H := Lib.hid hr1'
                          obtain ⟨n, hn⟩ : ∃ n, ls.length = n := ⟨_, rfl⟩
                          have hnlH := Lib.hid hn
                          rw [hn] at hll ⊢
                          clear h5 hr2 hr1' hn
                          go_wp2_with fail
                          go_loopw [187] (fun s187 wr2 => ∃ (i nq : Nat), i ≤ n ∧ s187 = .int .i64 i ∧ wr2 = w5.drewN nq) (fun s187 _ => n - (intOf s187).toNat)
                          case atStart => exact ⟨0, 0, Nat.zero_le _, rfl, rfl⟩
                          case round =>
                            obtain ⟨i, nq, hi2, rfl, rfl⟩ := hrel
                            by_cases hil : i < n
                            · obtain ⟨y, hy⟩ : ∃ y, ls[i]? = some y := ⟨_, List.getElem?_eq_getElem (by rw [hnlH.out]; exact hil)⟩
                              obtain ⟨g1, p1, t1, u1⟩ := rowI_at hr3H.out hy
                              obtain ⟨g2, p2, t2, u2⟩ := rowI_at hr2H.out hy
                              obtain rfl : b1 = some ⟨g1, 0, none⟩ := by simp at t1; exact t1.1
                              obtain rfl : b2 = some ⟨g2, 0, none⟩ := by simp at t2; exact t2.1
                              have hi1 : (i : Int) < (n : Int) := by omega
                              have hi0' : (0 : Int) ≤ (i : Int) := by omega
                              clear hy t1 t2
                              go_wp2_with fail
                              go_quiet (fail)
                              go_wp2_with fail
                              go_roundw
                              case rel => exact ⟨i + 1, _, by omega, by go_num, rfl⟩
                              case measure => simp [intOf]; omega
                            · obtain rfl : i = n := by omega
                              go_wp2_with fail
                              go_meet
                              exact ⟨T, R, N, a5, a6, c5, c6, X, f', rfl, rfl, rfl, rfl, hN5, h5H.out.below ⟨rfl, rfl, rfl, Nat.le_refl _, fun _ _ => rfl⟩, hXN.out⟩
                      · by_cases w6 : what = 6
                        · subst w6
                          as_aux_lemma =>
                            obtain rfl : N = X.length := hXN.out.symm
                            by_cases hn : X.length < 5
                            · have hn' : (X.length : Int) < 5 := by omega
                              obtain ⟨arr, harr⟩ : ∃ arr, rArr f = arr := ⟨_, rfl⟩
                              obtain ⟨zr, hzr⟩ : ∃ zr, rZero = zr := ⟨_, rfl⟩
                              have hz61 := zero61
                              have hst := r_store W f
                              have hbs := rArr_size f
                              have hrg := Lib.hid hP.out.i.r.range
                              have hsz : Hid ((Try.prog.info? 61).map (·.size) = some (rArr f).toList.length) := Lib.hid (by rw [Array.length_toList, rArr_size]; kernel_rfl)
                              have hn0 := Lib.hid hP.out.i.size
                              have hPA := Lib.hid (hP.out.below (((Below.refl W.heap.size W).alloc (Nat.le_refl _) (.cells (rArr f) 61)).alloc (by simp) (.cells #[.pointer (some ⟨T, 0, none⟩)] 54)))
                              rw [hzr] at hz61 hst
                              rw [harr] at hst hbs hrg hsz hPA
                              have harrH := Lib.hid harr
                              have hsrc := Lib.hid (show ∀ j u, ([.pointer (some ⟨T, 0, none⟩)] : List Value)[j]? = some u → ((W.alloc (.cells arr 61)).alloc (.cells #[.pointer (some ⟨T, 0, none⟩)] 54)).cell? ((⟨W.heap.size + 1, 0, none⟩ : Addr).add j) = some u from by
                                have h := one_ptr (W := W.alloc (.cells arr 61)) (t := 54) (p := T)
                                rw [World.size_alloc] at h
                                exact h)
                              have hbase := Lib.hid (show n₀ ≤ ((W.alloc (.cells arr 61)).alloc (.cells #[.pointer (some ⟨T, 0, none⟩)] 54)).heap.size from by rw [World.size_alloc, World.size_alloc]; have := hn0.out; omega)
                              have hOo := Lib.hid hPA.out.i.o.o
                              have hOr := Lib.hid hPA.out.i.o.r
                              clear e0 e1 e2 e3 harr hzr
                              go_wp2_with (first
                                | (refine wpList_load_mid rfl 61 (.tmp 206) rfl R 0 rfl arr.toList _ hrg.out Try.underlying61 rfl hsz.out ?_; rw [show arr.toList.toArray = arr from rfl])
                                | (at_builtin; (refine wpList_append_own _ rfl _ _ 62 rfl n₀ 54 i0 (.pointer none) 1 8 Try.underlying62 hi0 hz0 hz1 hz2 rfl (by decide) (.slice a5 X.length c5) X.length ((X.map (·.1)).map fun x => .pointer (some ⟨x, 0, none⟩)) rfl hOo.out ⟨W.heap.size + 1, 0, none⟩ 1 1 [.pointer (some ⟨T, 0, none⟩)] rfl rfl hsrc.out (by simp [Value.oneCell']) (by unfold maxLen; omega) (by omega) hbase.out ?_); intro v1 w3 hr1 hg1 _; obtain ⟨b1, q1, rfl⟩ := ownsRow_slice hr1; have hr1H := Lib.hid hr1; have hg1H := Lib.hid hg1; clear hr1 hg1)
                                | (at_builtin; refine wpList_append_own _ rfl _ _ 63 rfl n₀ 56 j0 (.pointer none) 1 8 Try.underlying63 hj0 hy0 hy1 hy2 rfl (by decide) (.slice a6 X.length c6) X.length ((X.map (·.2)).map fun x => .pointer (some ⟨x, 0, none⟩)) rfl ((row_grown2 hOr.out hOo.out (by decide) hg1H.out).alloc _) ⟨w3.heap.size, 0, none⟩ 1 1 [.pointer (some ⟨R, 0, none⟩)] rfl rfl one_ptr (by simp [Value.oneCell']) (by unfold maxLen; omega) (by omega) (by rw [World.size_alloc]; have h1 := hg1H.out.size; rw [World.size_alloc, World.size_alloc] at h1; have := hn0.out; omega) ?_; intro v2 w4 hr2 hg2 _; obtain ⟨b2, q2, rfl⟩ := ownsRow_slice hr2; have hr2H := Lib.hid hr2; have hg2H := Lib.hid hg2; clear hr2 hg2))
                              have hT4 : TabAt w4 T f := hP.out.kept (by rw [harrH.out]; exact hg1H.out) hg2H.out
                              refine (tcopy_any w4 hT4).mono ?_
                              rintro e w5 ⟨rfl, ht5, hb5⟩
                              have ht5H := Lib.hid ht5
                              have hb5H := Lib.hid hb5
                              clear ht5 hb5 hT4
                              go_wp2_with fail
                              go_meet
                              exact ⟨w4.heap.size, W.heap.size, X.length + 1, b1, b2, q1, q2, X ++ [(T, R)], f, rfl, rfl, rfl, rfl, by omega, hP.out.push hn hr1H.out (by rw [harrH.out]; exact hg1H.out) hr2H.out hg2H.out ht5H.out hb5H.out, by rw [List.length_append]; rfl⟩
                            · have hn' : ¬ (X.length : Int) < 5 := by omega
                              go_wp2_with fail
                              go_meet
                              exact ⟨T, R, X.length, a5, a6, c5, c6, X, f, rfl, rfl, rfl, rfl, hN5, hP.out, rfl⟩
                        · as_aux_lemma =>
                            have w0' : (what == 0) = false := by simpa using w0
                            have w1' : (what == 1) = false := by simpa using w1
                            have w2' : (what == 2) = false := by simpa using w2
                            have w3' : (what == 3) = false := by simpa using w3
                            have w4' : (what == 4) = false := by simpa using w4
                            have w5' : (what == 5) = false := by simpa using w5
                            have w6' : (what == 6) = false := by simpa using w6
                            go_wp2
                            go_meet
                            exact ⟨T, R, N, a5, a6, c5, c6, X, f, rfl, rfl, rfl, rfl, hN5, hP.out, hXN.out⟩
          case rest =>
            obtain ⟨T', R', N', a5', a6', c5', c6', X', f', rfl, rfl, rfl, rfl, hN', hQ⟩ := hcut
            as_aux_lemma =>
              clear hP hXN hN5
              go_wp2_with fail
              refine hQ.out.1.same.mono ?_
              rintro e w7 ⟨rfl, h7⟩
              have h7H := Lib.hid h7
              clear h7
              go_wp2_with fail
              go_roundw
              case rel => exact ⟨k + 1, T', R', N', a5', a6', c5', c6', X', f', by omega, by omega, rfl, rfl, rfl, rfl, by go_num, hN', h7H.out.i, hQ.out.2⟩
              case measure => simp [intOf]; omega
      · obtain rfl : k = len := by omega
        as_aux_lemma =>
          go_wp2_with fail
          go_meet
          have h := hI.out.1
          exact ⟨N, T, R, a5, a6, c5, c6, X, rfl, rfl, hN5, h.o, hI.out.2, h.b, h.size⟩
  case rest =>
    obtain ⟨N, T, R, a5, a6, c5, c6, X, rfl, rfl, hN5, hO⟩ := hcut
    go_wp2_with fail
    go_loopw [225] (fun s225 wr => ∃ k : Nat, k ≤ N ∧ s225 = .int .i64 k ∧ Hid (Olt n₀ wr T R (.slice a5 N c5) (.slice a6 N c6) X ∧ Below n₀ w wr ∧ n₀ ≤ wr.heap.size)) (fun s225 _ => N - (intOf s225).toNat)
    case atStart => exact ⟨0, Nat.zero_le _, rfl, ⟨hO.out.1, hO.out.2.2.1, hO.out.2.2.2⟩⟩
    case round =>
      obtain ⟨k, hk, rfl, hI⟩ := hrel
      by_cases hlt : k < N
      · obtain ⟨⟨x1, x2⟩, hx⟩ : ∃ x, X[k]? = some x := ⟨_, List.getElem?_eq_getElem (by rw [hO.out.2.1]; exact hlt)⟩
        have hSS : ∀ Z, Olt n₀ Z T R (.slice a5 N c5) (.slice a6 N c6) X → ∃ g1 g2, a5 = some ⟨g1, 0, none⟩ ∧ a6 = some ⟨g2, 0, none⟩ ∧ Z.cell? ⟨g1, k, none⟩ = some (.pointer (some ⟨x1, 0, none⟩)) ∧ Z.cell? ⟨g2, k, none⟩ = some (.pointer (some ⟨x2, 0, none⟩)) := fun Z h => by
          obtain ⟨g1, e1, t1⟩ := rowP_at h.o (k := k) (x := x1) (by rw [List.getElem?_map, hx]; rfl) (by rw [hO.out.2.1]; exact hlt)
          obtain ⟨g2, e2, t2⟩ := rowP_at h.r (k := k) (x := x2) (by rw [List.getElem?_map, hx]; rfl) (by rw [hO.out.2.1]; exact hlt)
          exact ⟨g1, g2, e1, e2, t1, t2⟩
        obtain ⟨g1, g2, rfl, rfl, f1, f2⟩ := hSS wr hI.out.1
        have hSH := Lib.hid (fun (Z : World) (h : Olt n₀ Z T R (.slice (some ⟨g1, 0, none⟩) N c5) (.slice (some ⟨g2, 0, none⟩) N c6) X) => (show Z.cell? ⟨g1, k, none⟩ = some (.pointer (some ⟨x1, 0, none⟩)) ∧ Z.cell? ⟨g2, k, none⟩ = some (.pointer (some ⟨x2, 0, none⟩)) from by
          obtain ⟨g1', g2', e1, e2, t1, t2⟩ := hSS Z h
          obtain rfl : g1 = g1' := by simpa using e1
          obtain rfl : g2 = g2' := by simpa using e2
          exact ⟨t1, t2⟩))
        have hmem := Lib.hid (List.mem_of_getElem? hx)
        have hd := Lib.hid (hI.out.1.below ((Below.refl wr.heap.size wr).drew))
        have hsm := Lib.hid (show Calls Try.prog 39 #[.pointer (some ⟨x1, 0, none⟩), .pointer (some ⟨x2, 0, none⟩)] wr.drew fun e w' => e = .returned (.bool true) ∧ Below wr.drew.heap.size wr.drew w' from by
          obtain ⟨⟨f, h1, h2⟩, _⟩ := hd.out.all _ hmem.out
          exact same_any wr.drew h1 h2)
        have hk1 : (k : Int) < (N : Int) := by omega
        have hk0 : (0 : Int) ≤ (k : Int) := by omega
        clear hSS hx hO
        go_wp2_with fail
        go_region_held3 (fun Z => Z.cell? ⟨g1, k, none⟩ = some (.pointer (some ⟨x1, 0, none⟩)) ∧ Z.cell? ⟨g2, k, none⟩ = some (.pointer (some ⟨x2, 0, none⟩))) (first | exact hSH.out _ hd.out | exact hSH.out _ hF.out)
          ((go_at_call 39; refine hsm.out.mono ?_; rintro e w4 ⟨rfl, hb⟩; have hF := Lib.hid (hd.out.below hb); have hbH := Lib.hid hb; clear hb))
        all_goals
          go_wp2_with fail
          go_roundw
          case rel => exact ⟨k + 1, by omega, by go_num, hF.out, hI.out.2.1.trans (((Below.refl wr.heap.size wr).drew.trans hbH.out).mono hI.out.2.2), Nat.le_trans hI.out.2.2 hbH.out.size⟩
          case measure => simp [intOf]; omega
      · obtain rfl : k = N := by omega
        go_wp2_with fail
        go_ret
        exact ⟨rfl, hI.out.2.1⟩

theorem tableRuns_w (A : Option Addr) (len cap : Nat) (w : World) (h : CallsT w.heap.size w A len ∧ len ≤ maxLen) :
    Calls Try.prog 6 #[.slice A len cap] w fun e w' => e = .returned (.bool true) ∧ Below w.heap.size w w' := truns_walk A len cap w h.1 h.2
end Go.Proofs.Ytifoanmoadogoaa
