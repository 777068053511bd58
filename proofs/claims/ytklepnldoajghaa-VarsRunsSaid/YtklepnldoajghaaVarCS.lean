/- The law's 'same': true where both have the same. Condition: both lie as stated. -/
import Derived.Test.YtklepnldoajghaaVarCR
import Derived.Test.YtklepnldoajghaaVarCK
import Derived.Test.YtklepnldoajghaaVarV
import Derived.Test.YtklepnldoajghaaQR
namespace Go.Proofs.Ytklepnldoajghaa
open Go.RowKit Go.Shelf Go.PlainAid
attribute [local go_sem] Oper.semAt_some

set_option maxRecDepth 100000 in
set_option maxHeartbeats 8000000 in
theorem same_in {n₀ n₁ p q : Nat} {L : Vl} {A : List ByteArray} {kv vv av lv aw : Value} (w : World) (h : VarsAt n₀ w p L A kv vv av) (h2 : RefAt n₁ w q L A lv aw) (hz : ∀ x ∈ L, x.1.size + x.2.val.size ≤ 4611686018427387904) :
    CallsIn Fence.wide 6 Try.prog 24 #[.pointer (some ⟨p, 0, none⟩), .pointer (some ⟨q, 0, none⟩)] w fun e w' => e = .returned (.bool true) ∧ Below w.heap.size w w' := by
  obtain ⟨m, hm⟩ : ∃ m, w.heap.size = m := ⟨_, rfl⟩
  have hH := Lib.hid h
  have h2H := Lib.hid h2
  have hmH := Lib.hid hm
  rw [hm]
  obtain ⟨W0, hW0⟩ : ∃ W0, ((((w.alloc (.cells #[.pointer (some ⟨p, 0, none⟩)] 24)).alloc (.cells #[.pointer (some ⟨q, 0, none⟩)] 26)).alloc (.cells #[.bool false] 4)).alloc (.cells #[.int .i64 0] 3)).alloc (.cells #[.pointer (some ⟨p, 0, none⟩)] 24) = W0 := ⟨_, rfl⟩
  have hW0H := Lib.hid hW0
  clear h h2 hm hW0
  refine callsIn_of_wp_marks Try.func24 rfl trivial ?_ rfl
  simp only [Try.ntmps24, List.size_toArray, List.length_cons, List.length_nil, Nat.reduceAdd, Nat.reduceSub, Array.replicate_succ, Array.replicate_zero, List.push_toArray, List.append_toArray, List.nil_append, List.cons_append]
  gi_wp2_with (refine ⟨trivial, ?_⟩; gi_at_call 25; refine (callsIn_wide.2 (All_any _ _)).mono ?_; rintro e w' ⟨rfl, rfl⟩)
  have hmo := hmH.out
  have hmo' : (w.alloc (.cells #[.pointer (some ⟨p, 0, none⟩)] 24)).heap.size = m + 1 := by rw [World.size_alloc, hmo]
  have hW := hW0H.out
  have hs0 : W0.heap.size = m + 5 := by rw [← hW, ← hmo]; simp
  have g0 : Blk W0 m 24 #[.pointer (some ⟨p, 0, none⟩)] := by rw [← hW, ← hmo]; exact ((((Blk.new w 24 _).alloc _).alloc _).alloc _).alloc _
  have g1 : Blk W0 (m + 1) 26 #[.pointer (some ⟨q, 0, none⟩)] := by
    have h := (((Blk.new (w.alloc (.cells #[.pointer (some ⟨p, 0, none⟩)] 24)) 26 #[.pointer (some ⟨q, 0, none⟩)]).alloc (.cells #[.bool false] 4)).alloc (.cells #[.int .i64 0] 3)).alloc (.cells #[.pointer (some ⟨p, 0, none⟩)] 24)
    rw [hW] at h
    simpa [hmo] using h
  have g2 : Blk W0 (m + 2) 4 #[.bool false] := by
    have h := ((Blk.new ((w.alloc (.cells #[.pointer (some ⟨p, 0, none⟩)] 24)).alloc (.cells #[.pointer (some ⟨q, 0, none⟩)] 26)) 4 #[.bool false]).alloc (.cells #[.int .i64 0] 3)).alloc (.cells #[.pointer (some ⟨p, 0, none⟩)] 24)
    rw [hW] at h
    simpa [hmo] using h
  have g3 : Blk W0 (m + 3) 3 #[.int .i64 0] := by
    have h := (Blk.new (((w.alloc (.cells #[.pointer (some ⟨p, 0, none⟩)] 24)).alloc (.cells #[.pointer (some ⟨q, 0, none⟩)] 26)).alloc (.cells #[.bool false] 4)) 3 #[.int .i64 0]).alloc (.cells #[.pointer (some ⟨p, 0, none⟩)] 24)
    rw [hW] at h
    simpa [hmo] using h
  have g4 : Blk W0 (m + 4) 24 #[.pointer (some ⟨p, 0, none⟩)] := by
    have h := Blk.new ((((w.alloc (.cells #[.pointer (some ⟨p, 0, none⟩)] 24)).alloc (.cells #[.pointer (some ⟨q, 0, none⟩)] 26)).alloc (.cells #[.bool false] 4)).alloc (.cells #[.int .i64 0] 3)) 24 #[.pointer (some ⟨p, 0, none⟩)]
    rw [hW] at h
    simpa [hmo] using h
  have hBel : Below m w W0 := by
    rw [← hW]
    exact (((((Below.refl _ w).alloc (by omega) _).alloc (by simp; omega) _).alloc (by simp; omega) _).alloc (by simp; omega) _).alloc (by simp; omega) _
  have hV0 := hH.out.beneath (w1 := W0) (by rw [hmo]; exact hBel)
  rw [hW, hmo]
  have hl := hH.out.len
  have hmo2 : m + 5 ≤ W0.heap.size := by omega
  clear hmo hmo' hW
  refine range_law rfl (by omega) (gf := 41) (lb := #[.pointer (some ⟨m + 4, 0, none⟩)]) rfl trivial (enters_of Try.func41 (by kernel_rfl) rfl)
    (All_seq (6 - 1) (by omega) (m + 4) n₀ p L kv vv W0 (by omega) (g4.cell 0) hV0.ord) (fun _ _ _ _ _ _ _ _ h => h) (Below.refl _ _) (fun _ => rfl)
    (fun T pre X => Blk X m 24 #[.pointer (some ⟨p, 0, none⟩)] ∧ Blk X (m + 1) 26 #[.pointer (some ⟨q, 0, none⟩)] ∧ Blk X (m + 2) 4 #[.bool false] ∧ Blk X (m + 3) 3 #[.int .i64 (pre.length : Nat)] ∧ Below m w X ∧ m + 5 ≤ X.heap.size ∧ ∀ k ∈ T, m + 4 < k ∧ k < X.heap.size)
    (fun _ _ _ _ => False)
    (fun T T' pre A B hs he => by
      obtain ⟨b0, b1, b2, b3, hw, hz5, hT⟩ := hs
      have hb : ∀ k, k ≤ m + 3 → k < A.heap.size → B.heap[k]? = A.heap[k]? := fun k hk hk2 => he.block k hk2 (fun e => by have := (hT _ e).1; omega)
      refine ⟨(hb m (by omega) b0.lt).trans b0, (hb _ (by omega) b1.lt).trans b1, (hb _ (by omega) b2.lt).trans b2, (hb _ (by omega) b3.lt).trans b3,
        hw.trans ⟨he.os, he.tape, he.output, he.size, fun k hk => hb k (by omega) (by have := b0.lt; omega)⟩, by have := he.size; omega, fun k hk => ?_⟩
      have := he.size
      rcases he.new k hk with e | e
      · have h := hT k e
        exact ⟨h.1, by omega⟩
      · exact ⟨by have := e.1; omega, e.2⟩)
    (fun _ _ _ _ _ _ h _ => h)
    ⟨g0, g1, g2, g3, hBel, hmo2, fun k hk => by cases hk⟩
    (fun x X => { tmps := #[.pointer (some ⟨p, 0, none⟩), .pointer (some ⟨q, 0, none⟩), .pointer (some ⟨m, 0, none⟩), .pointer (some ⟨m + 1, 0, none⟩), .pointer (some ⟨m + 2, 0, none⟩), .pointer (some ⟨m + 3, 0, none⟩), .pointer (some ⟨X.heap.size, 0, none⟩), undef, undef, .pointer (some ⟨p, 0, none⟩), .func (.func 41) #[] #[.pointer (some ⟨m + 4, 0, none⟩)], .agg #[.string x.1, .string x.2.val, .bool x.2.ex, .bool x.2.ro, .bool (!x.2.st)], undef, undef, undef, undef, undef, undef, undef, undef, undef, undef, undef, undef, undef, undef, undef, undef, undef, undef, undef, undef, undef, undef, undef, undef, undef, undef, undef, undef, undef, undef, undef, undef, undef, undef, undef, undef, undef, undef, undef, undef, undef, undef, undef, undef, undef, undef, undef, undef, undef, undef, undef, undef, undef, undef, undef, undef, undef, undef, undef, undef], defers := [] })
    (fun x X => X.alloc (.cells #[.string x.1, .string x.2.val, .bool x.2.ex, .bool x.2.ro, .bool (!x.2.st)] 73))
    (fun x X => (Below.refl _ X).alloc (Nat.le_refl _) _) (fun _ _ _ _ h => h) ?assign ?body ?done ?stop
  case assign =>
    intro l' x X K hK
    gi_wp2
    simpa [encA] using hK
  case body =>
    rintro l T pre x W W' o hpre - hl1 hW' ⟨b0, b1, b2, b3, hw, hz5, hT⟩
    have hR := h2H.out.beneath (w1 := W') (by rw [hmH.out]; exact hw)
    have hV := hH.out.beneath (w1 := W') (by rw [hmH.out]; exact hw)
    have hc : Blk W' W.heap.size 73 #[.string x.1, .string x.2.val, .bool x.2.ex, .bool x.2.ro, .bool (!x.2.st)] := by
      rw [hW']
      exact (World.putObj_heap_other (by omega)).trans (Blk.new W 73 _)
    obtain ⟨i, hi⟩ : ∃ i, pre.length = i := ⟨_, rfl⟩
    obtain ⟨rest, hrest⟩ := hpre
    have hat : L[i]? = some x := by rw [← hrest, ← hi]; simp
    obtain ⟨hil, _⟩ := List.getElem?_eq_some_iff.1 hat
    obtain ⟨g, cap, e1, _, hcc, _, _⟩ := row_at rcs_len hR.list hat
    rw [hi] at b3
    obtain ⟨c, hcb⟩ : ∃ c, W.heap.size = c := ⟨_, rfl⟩
    rw [hcb] at hc ⊢
    obtain ⟨⟨q0, q1, q2, q3, q4⟩, f0, f1, f2, f3, f4⟩ := blk5 hc
    have d0 : W'.cell? ⟨g, i * 5, none⟩ = some (.string x.1) := hcc 0 _ rfl
    have d1 : W'.cell? ⟨g, i * 5 + 1, none⟩ = some (.string x.2.val) := hcc 1 _ rfl
    have d2 : W'.cell? ⟨g, i * 5 + 2, none⟩ = some (.bool x.2.ex) := hcc 2 _ rfl
    have d3 : W'.cell? ⟨g, i * 5 + 3, none⟩ = some (.bool x.2.ro) := hcc 3 _ rfl
    have d4 : W'.cell? ⟨g, i * 5 + 4, none⟩ = some (.bool (!x.2.st)) := hcc 4 _ rfl
    have p0 : W'.cell? ⟨q, 0, none⟩ = some (.slice (some ⟨g, 0, none⟩) L.length cap) := by rw [hR.blk.cell 0, ← e1]; rfl
    have n0 : W'.cell? ⟨m, 0, none⟩ = some (.pointer (some ⟨p, 0, none⟩)) := b0.cell 0
    have n1 : W'.cell? ⟨m + 1, 0, none⟩ = some (.pointer (some ⟨q, 0, none⟩)) := b1.cell 0
    have n3 : W'.cell? ⟨m + 3, 0, none⟩ = some (.int .i64 i) := b3.cell 0
    have hii : (i : Int) < (L.length : Int) := by omega
    have hi0 : (0 : Int) ≤ (i : Int) := by omega
    have hl64 := hl
    have hWc := Lib.hid hW'
    clear hW'
    gi_wp2
    refine wpIn_region_quiet_round rfl (by kernel_rfl) (by kernel_rfl) (by kernel_rfl) ?_
    iterate 8 (gi_big_quiet_step (fail))
    rw [show decide (L.length ≤ i) = false from decide_eq_false (by omega)]
    repeat (gi_big_quiet_step (fail))
    refine wpQuietIn_nil ?_
    rintro _ ⟨nq, rfl⟩
    have hVH := Lib.hid (hV.beneath (w1 := W'.drewN nq) (Below.drewN_ nq (Below.refl _ W')))
    have hgx : got L x.1 = x.2 := got_of hV.ord.srt (List.mem_of_getElem? hat)
    have hgxH := Lib.hid hgx
    have hsz : (W'.drewN nq).heap.size = W'.heap.size := rfl
    have hszH := Lib.hid hsz
    have hcH := Lib.hid hc
    have b1H := Lib.hid b1
    have b3H := Lib.hid b3
    clear hV hR hgx hsz
    gi_wp2
    refine ⟨trivial, ?_⟩
    refine (CallsIn.inRound l (callsIn_wide.2 (Get_any x.1 _ hVH.out))).mono ?_
    rintro e w2 ⟨rfl, hb2⟩
    have hb2H := Lib.hid hb2
    have eg := hgxH.out
    rw [eg]
    clear eg
    obtain ⟨⟨s0, s1, s2, s3, s4⟩, u0, u1, u2, u3, u4⟩ := blk5 (W := w2) (m := c) (t := 73) ((hb2.block c hcH.out.lt).trans hcH.out)
    have s9 : Blk w2 (m + 3) 3 #[.int .i64 i] := (hb2.block (m + 3) b3H.out.lt).trans b3H.out
    have s5 : w2.cell? ⟨m + 3, 0, none⟩ = some (.int .i64 i) := s9.cell 0
    have s6 : w2.frozen? ⟨m + 3, 0, none⟩ = false := s9.frozen 0
    clear hb2 s9
    gi_wp2
    have hb := hb2H.out
    have b3' := b3H.out
    have b1' := b1H.out
    have hsz := hszH.out
    have hold : ∀ k, k < W'.heap.size → k ≠ m + 3 → (w2.setCell ⟨m + 3, 0, none⟩ (.int .i64 (↑i + 1))).heap[k]? = W'.heap[k]? := fun k hk hne => (Below.heap_setCell _ _ _ k hne).trans (hb.block k hk)
    have hB2 : Below m W' w2 := ⟨hb.os, hb.tape, hb.output, hb.size, fun k hk => hb.block k (show k < W'.heap.size by omega)⟩
    have hsize : W'.heap.size ≤ w2.heap.size := hb.size
    refine ⟨⟨(hold m (by omega) (by omega)).trans b0, (hold _ b1'.lt (by omega)).trans b1', (hold _ b2.lt (by omega)).trans b2, ?_, hw.trans (hB2.setCell (p := ⟨m + 3, 0, none⟩) (by show m ≤ m + 3; omega) _), by simp [World.setCell]; omega, fun k hk => ?_⟩, ⟨by simp [World.setCell]; omega, fun k hk hks => hold k hks (by have := (hT k hk).1; omega)⟩, trivial⟩
    · have h0 : Blk w2 (m + 3) 3 #[.int .i64 i] := (hb.block (m + 3) b3'.lt).trans b3'
      have h := h0.set_ 0 (.int .i64 (↑i + 1))
      rw [show ((pre ++ [x]).length : Nat) = i + 1 by rw [List.length_append, hi]; rfl]
      exact h
    · have := hT k hk
      exact ⟨this.1, by simp [World.setCell]; omega⟩
  case done =>
    rintro D T xs W hD hDT rfl ⟨b0, b1, b2, b3, hw, hz5, hT⟩ hK
    have hV := Lib.hid (fun Z (hb : Below W.heap.size W Z) => hH.out.beneath (w1 := Z) (by rw [hmH.out]; exact hw.trans (hb.mono (by omega))))
    have hR := Lib.hid (fun Z (hb : Below W.heap.size W Z) => h2H.out.beneath (w1 := Z) (by rw [hmH.out]; exact hw.trans (hb.mono (by omega))))
    obtain ⟨a0, c0, rfl⟩ := ownsRow_slice h2H.out.list
    obtain ⟨a1, c1, rfl⟩ := h2H.out.args.slice
    have hR0 := (hR.out W (Below.refl _ _)).blk
    have hqm : q < m := by rw [← hmH.out]; exact h2H.out.blk.lt
    obtain ⟨N, hN⟩ : ∃ N, xs.length = N := ⟨_, rfl⟩
    have hS := Lib.hid (fun Z (hb : RT (m + 2) W Z) => (show Z.cell? ⟨m, 0, none⟩ = some (.pointer (some ⟨p, 0, none⟩)) ∧ Z.cell? ⟨m + 1, 0, none⟩ = some (.pointer (some ⟨q, 0, none⟩)) ∧ Z.cell? ⟨m + 3, 0, none⟩ = some (.int .i64 (N : Nat)) ∧ Z.cell? ⟨q, 0, none⟩ = some (.slice a0 N c0) ∧ Z.cell? ⟨q, 1, none⟩ = some (.slice a1 A.length c1) from by
      have k0 : Blk Z m 24 _ := (hb.block m b0.lt (by omega)).trans b0
      have k1 : Blk Z (m + 1) 26 _ := (hb.block _ b1.lt (by omega)).trans b1
      have k3 : Blk Z (m + 3) 3 _ := (hb.block _ b3.lt (by omega)).trans b3
      have k4 : Blk Z q 30 _ := (hb.block _ hR0.lt (by omega)).trans hR0
      rw [hN] at k3 k4
      exact ⟨k0.cell 0, k1.cell 0, k3.cell 0, k4.cell 0, k4.cell 1⟩))
    have hS0 := hS.out W (RT.of (Below.refl _ _))
    obtain ⟨s0, s1, s3, s4, s5⟩ := hS0
    have hbd : Hid (Below W.heap.size W W.drew) := Lib.hid (Below.refl _ _).drew
    have b2H := Lib.hid b2
    have hKH := Lib.hid hK
    have hwH := Lib.hid hw
    have hTD := Lib.hid (hT D hDT)
    have hm5 : Hid (m + 5 ≤ W.heap.size) := Lib.hid hz5
    have hEl : Hid ((envL xs).length ≤ 100000) := Lib.hid (by have := envL_len xs; omega)
    have hAl : Hid (A.length ≤ 100000) := Lib.hid (by have := h2H.out.alen; omega)
    clear hR0 b0 b1 b2 b3 hT hK hw
    gi_wp2
    refine wpIn_wide.2 ?_
    go_region_held3 (fun Z => Z.cell? ⟨m, 0, none⟩ = some (.pointer (some ⟨p, 0, none⟩)) ∧ Z.cell? ⟨m + 1, 0, none⟩ = some (.pointer (some ⟨q, 0, none⟩)) ∧ Z.cell? ⟨m + 3, 0, none⟩ = some (.int .i64 (N : Nat)) ∧ Z.cell? ⟨q, 0, none⟩ = some (.slice a0 N c0) ∧ Z.cell? ⟨q, 1, none⟩ = some (.slice a1 A.length c1))
      (first | exact hS.out _ (RT.of hbd.out) | exact hS.out _ ((RT.of hbG.out).set _) | exact hS.out _ (RT.of hbG.out) | exact hS.out _ (RT.of hbD.out) | exact hS.out _ (RT.of hbE.out) | exact hS.out _ (RT.of hbC.out) | exact hS.out _ (RT.of hbB2.out) | exact hS.out _ (RT.of hbA2.out) | exact hS.out _ (RT.of hbA.out) | exact hS.out _ (RT.of hbB.out) | go_keep)
      (first
      | (go_at_call 27; first
          | (refine (Environ_any _ (hV.out _ hbd.out) hz).mono ?_
             rintro e wA ⟨v, rfl, hr, hb⟩
             obtain ⟨eA, cA, rfl⟩ := ownsRow_slice hr
             have hrA := Lib.hid (TxAt.of_row hr)
             have hbA := Lib.hid (hbd.out.trans hb)
             clear hr hb)
          | (refine (Environ_any _ (hV.out _ hbB.out) hz).mono ?_
             rintro e wA ⟨v, rfl, hr, hb⟩
             obtain ⟨eA, cA, rfl⟩ := ownsRow_slice hr
             have hrA := Lib.hid (TxAt.of_row hr)
             have hrB2 := Lib.hid (hrB.out.beneath hb)
             have hbC := Lib.hid (hbB.out.trans (hb.mono hbB.out.size))
             clear hr hb))
      | (go_at_call 40; first
          | (refine (environR_any _ (hR.out _ hbd.out) hz).mono ?_
             rintro e wB ⟨v, rfl, hr, hb⟩
             obtain ⟨eB, cB, rfl⟩ := ownsRow_slice hr
             have hrB := Lib.hid (TxAt.of_row hr)
             have hbB := Lib.hid (hbd.out.trans hb)
             clear hr hb)
          | (refine (environR_any _ (hR.out _ hbA.out) hz).mono ?_
             rintro e wB ⟨v, rfl, hr, hb⟩
             obtain ⟨eB, cB, rfl⟩ := ownsRow_slice hr
             have hrB2 := Lib.hid (TxAt.of_row hr)
             have hrA2 := Lib.hid (hrA.out.beneath hb)
             have hbC := Lib.hid (hbA.out.trans (hb.mono hbA.out.size))
             clear hr hb))
      | (go_at_call 28; first
          | (refine (texts_same _ hrD.out (hR.out _ hbD.out).args hAl.out).mono ?_
             rintro e wG ⟨rfl, hb⟩
             have hbG := Lib.hid (hbD.out.trans (hb.mono hbD.out.size))
             have g2 : Blk wG (m + 2) 4 #[.bool false] := (hbG.out.block _ b2H.out.lt).trans b2H.out
             have g3 := g2.cell 0
             have g4 := g2.frozen 0
             have g2H := Lib.hid g2
             clear hb g2)
          | (refine (texts_same _ hrA2.out hrB2.out hEl.out).mono ?_
             rintro e wE ⟨rfl, hb⟩
             have hbE := Lib.hid (hbC.out.trans (hb.mono hbC.out.size))
             clear hb)
          | (refine (texts_same _ hrA.out hrB2.out hEl.out).mono ?_
             rintro e wE ⟨rfl, hb⟩
             have hbE := Lib.hid (hbC.out.trans (hb.mono hbC.out.size))
             clear hb))
      | (go_at_call 26; refine (Args_any _ (hV.out _ hbE.out)).mono ?_
         rintro e wD ⟨v, rfl, hr, hb⟩
         obtain ⟨eD, cD, rfl⟩ := ownsRow_slice hr
         have hrD := Lib.hid (TxAt.of_row hr)
         have hbD := Lib.hid (hbE.out.trans (hb.mono hbE.out.size))
         clear hr hb))
    all_goals
      go_wp2
      gi_wp2
      have hD1 := hTD.out
      have hB := hbG.out
      have hK' : (wG.setCell ⟨m + 1 + 1, 0, none⟩ (.bool true)).heap[D]? = some (.deferred (some [])) := (Below.heap_setCell _ _ _ D (by show D ≠ m + 1 + 1; omega)).trans ((hB.block D hD1.2).trans hKH.out)
      refine ⟨by simp, .inl ⟨_, _, rfl, run_takeDeferred hK', ?_⟩⟩
      have hb7 : Blk (wG.setCell ⟨m + 1 + 1, 0, none⟩ (.bool true)) (m + 1 + 1) 4 #[.bool true] := g2H.out.set_ 0 _
      have hb8 : Blk ((wG.setCell ⟨m + 1 + 1, 0, none⟩ (.bool true)).putObj D (.deferred none)) (m + 1 + 1) 4 #[.bool true] := (World.putObj_heap_other (by omega)).trans hb7
      have hc8 := hb8.cell 0
      refine ⟨.bool true, by simp [results, Try.f24, go_sem, hc8], rfl, ?_⟩
      have hB7 := (hwH.out.trans (hB.mono (by have := hm5.out; omega))).setCell (p := ⟨m + 1 + 1, 0, none⟩) (by show m ≤ m + 1 + 1; omega) (.bool true)
      exact hB7.trans ⟨rfl, rfl, rfl, by simp [World.putObj], fun k hk => World.putObj_heap_other (by omega)⟩
  case stop =>
    rintro D c T pre X hD hDT hpre h hK
    exact h.elim

/-- The law's 'same', in a plain activation. -/
theorem same_any {n₀ n₁ p q : Nat} {L : Vl} {A : List ByteArray} {kv vv av lv aw : Value} (w : World) (h : VarsAt n₀ w p L A kv vv av) (h2 : RefAt n₁ w q L A lv aw) (hz : ∀ x ∈ L, x.1.size + x.2.val.size ≤ 4611686018427387904) :
    Calls Try.prog 24 #[.pointer (some ⟨p, 0, none⟩), .pointer (some ⟨q, 0, none⟩)] w fun e w' => e = .returned (.bool true) ∧ Below w.heap.size w w' := callsIn_wide.1 (same_in w h h2 hz)
end Go.Proofs.Ytklepnldoajghaa
