/- The law WordParams: its walk. Condition: the library's variable holds a number (Gl). -/
import Derived.Test.YtgpkhpheomaiaaaDoorLwQ
import Derived.Test.YtgpkhpheomaiaaaDoorQpN
import Derived.WalkLawsBesides
namespace Go.Proofs.YtgpkhpheomaiaaaDoor
open Go.RowKit Go.PlainAid
attribute [local go_sem] Oper.semAt_some

def opsA : Array Value := #[.string ⟨#[58, 45]⟩, .string ⟨#[58, 61]⟩, .string ⟨#[58, 63]⟩, .string ⟨#[58, 43]⟩, .string ⟨#[45]⟩, .string ⟨#[61]⟩, .string ⟨#[63]⟩, .string ⟨#[43]⟩, .string ⟨#[37]⟩, .string ⟨#[37, 37]⟩, .string ⟨#[35]⟩, .string ⟨#[35, 35]⟩]
theorem opsA_at {k : Nat} (h : k < 12) : ∃ O : ByteArray, opsA[k]? = some (.string O) ∧ O.data.toList ∈ opsL ∧ O.size ≤ 2 := by
  have : k = 0 ∨ k = 1 ∨ k = 2 ∨ k = 3 ∨ k = 4 ∨ k = 5 ∨ k = 6 ∨ k = 7 ∨ k = 8 ∨ k = 9 ∨ k = 10 ∨ k = 11 := by omega
  rcases this with rfl | rfl | rfl | rfl | rfl | rfl | rfl | rfl | rfl | rfl | rfl | rfl <;> exact ⟨_, rfl, by decide, by decide⟩

theorem i64_of {n : Int} (h : (Lit.int .i64 n).wf = true) : -9223372036854775808 ≤ n ∧ n ≤ 9223372036854775807 := by
  simpa [Lit.wf, IntKind.min, IntKind.max, IntKind.bits, IntKind.signed] using h

theorem sz_a (nm : ByteArray) : ((⟨#[36]⟩ : ByteArray) ++ nm).size = nm.size + 1 := by
  rw [ByteArray.size_append, show (⟨#[36]⟩ : ByteArray).size = 1 from rfl]; omega
theorem sz_b (nm O Q : ByteArray) : ((⟨#[36, 123]⟩ : ByteArray) ++ nm ++ O ++ Q ++ ⟨#[125]⟩).size = nm.size + O.size + Q.size + 3 := by
  rw [ByteArray.size_append, ByteArray.size_append, ByteArray.size_append, ByteArray.size_append, show (⟨#[36, 123]⟩ : ByteArray).size = 2 from rfl, show (⟨#[125]⟩ : ByteArray).size = 1 from rfl]; omega
theorem sz_c (nm : ByteArray) : ((⟨#[36, 123, 35]⟩ : ByteArray) ++ nm ++ ⟨#[125]⟩).size = nm.size + 4 := by
  rw [ByteArray.size_append, ByteArray.size_append, show (⟨#[36, 123, 35]⟩ : ByteArray).size = 3 from rfl, show (⟨#[125]⟩ : ByteArray).size = 1 from rfl]; omega
theorem par_call {X : ByteArray} {l : List PT} (hz : X.size ≤ 65536) (h : topM X 0 = .ok l) : ∀ w, Calls Tryd.prog 6 #[.string X, .int .i64 0] w fun e w' => ∃ a c T, e = .returned (.tuple #[.slice a l.length c, .int .i64 0]) ∧ WAt w' T 25 (.slice a l.length c) l ∧ (∀ g, T g → w.heap.size ≤ g ∧ g < w'.heap.size) ∧ Below w.heap.size w w' := fun w => pr_good (Parts_any X 0 w hz) h
theorem below_drewN {n : Nat} {w w' : World} (h : Below n w w') (m : Nat) : Below n w (w'.drewN m) := ⟨h.os, h.tape, h.output, h.size, h.block⟩
theorem op_idx (op : Int) : ∃ k : Nat, k < 12 ∧ (wrap64 (op.tmod 12 + 12)).tmod 12 = (k : Int) := by
  have h1 := Int.tmod_lt_of_pos op (show (0 : Int) < 12 by decide)
  have h2 := Int.lt_tmod_of_pos op (show (0 : Int) < 12 by decide)
  generalize op.tmod 12 = r at h1 h2 ⊢
  have h4 : wrap64 (r + 12) = r + 12 := IntWalk.wrap64_in _ ⟨by omega, by omega⟩
  rw [h4]
  exact ⟨(r + 12).toNat % 12, Nat.mod_lt _ (by decide), IntWalk.up_tmod (by omega) rfl⟩

set_option maxRecDepth 100000 in
set_option maxHeartbeats 8000000 in
theorem params_law (nm s : ByteArray) (op : Int) (w : World) (z0 : nm.data.toList.length ≤ reachBytes) (z1 : s.data.toList.length ≤ reachBytes) (hop : (Lit.int .i64 op).wf = true) (hg : Gl w) : Calls Tryd.prog 4 #[.string nm, .string s, .int .i64 op] w fun e w' => e = .returned (.bool true) ∧ Below w.heap.size w w' := by
  have hz0 : nm.size ≤ 140737488351232 := by rw [Lib.size_eq]; exact z0
  have hz1 : s.size ≤ 140737488351232 := by rw [Lib.size_eq]; exact z1
  obtain ⟨ho1, ho2⟩ := i64_of hop
  have hb := get_bt s
  have hgH := Lib.hid hg
  have hgs := hg.size
  have hnm := Lib.hid (fun w => name_any nm w (by unfold maxLen; omega))
  clear hg z0 z1 hop
  go_enter Tryd.func4, Tryd.ntmps4
  go_wp2_with fail
  refine (awake_any _).mono ?_
  rintro e w1 ⟨rfl, hb1⟩
  have hb1H := Lib.hid hb1
  have hg1 := Lib.hid (hgH.out.below hb1 hgs)
  clear hb1
  go_wp2_with fail
  refine (hnm.out _).mono ?_
  rintro e w1 ⟨rfl, rfl⟩
  cases hN : isName nm
  · go_wp2
    go_ret
    exact ⟨rfl, hb1H.out⟩
  · by_cases h3 : 300 < nm.size + s.size
    · have h3I : (300 : Int) < (nm.size : Int) + (s.size : Int) := by omega
      go_wp2
      go_ret
      exact ⟨rfl, hb1H.out⟩
    · have h3I : ¬ (300 : Int) < (nm.size : Int) + (s.size : Int) := by omega
      by_cases hp : s.size ≠ 0 ∧ bt s 0 = 37
      · have hpos : 0 < s.size := by omega
        have hne : (!s.toList.isEmpty) = true := str_ne hp.1
        have h37 : (bt s 0 == 37) = true := by rw [hp.2]; rfl
        clear hp
        go_wp2
        go_ret
        exact ⟨rfl, hb1H.out⟩
      · have hs : s.size = 0 ∨ bt s 0 ≠ 37 := by
          by_cases h : s.size = 0
          · exact .inl h
          · exact .inr (fun e => hp ⟨h, e⟩)
        have hsH := Lib.hid hs
        have hguard : Hid ((!s.toList.isEmpty) = false ∨ (0 < s.size ∧ (!s.toList.isEmpty) = true ∧ (bt s 0 == 37) = false)) := Lib.hid (by
          rcases hs with h | h
          · obtain rfl := size0 h
            exact .inl (by rw [Lib.toList_data]; rfl)
          · by_cases h0 : s.size = 0
            · obtain rfl := size0 h0
              exact .inl (by rw [Lib.toList_data]; rfl)
            · exact .inr ⟨by omega, str_ne h0, beq_eq_false_iff_ne.2 h⟩)
        clear hp hs
        obtain ⟨k, hk12, hkE0⟩ := op_idx op
        have hkE := Lib.hid hkE0
        clear hkE0
        obtain ⟨O, hOk0, hOm, hO2⟩ := opsA_at hk12
        obtain ⟨q, hqb⟩ := par_b hN hOm hsH.out
        have hqz := quoT_size s
        have hA := Lib.hid (par_call (by rw [sz_a]; omega) (par_a hN))
        have hB := Lib.hid (par_call (by rw [sz_b]; omega) hqb)
        have hC := Lib.hid (par_call (by rw [sz_c]; omega) (par_c hN))
        have hqzH := Lib.hid hqz
        have hOk := Lib.hid hOk0
        clear hqb hOm hOk0 hqz
        rcases hguard.out with hE | ⟨hpos, hE, h37⟩
        all_goals
          go_wp2_with fail
          rw [hkE.out]
          obtain ⟨X, hX⟩ : ∃ X, w1.alloc (.cells #[.string ⟨#[58, 45]⟩, .string ⟨#[58, 61]⟩, .string ⟨#[58, 63]⟩, .string ⟨#[58, 43]⟩, .string ⟨#[45]⟩, .string ⟨#[61]⟩, .string ⟨#[63]⟩, .string ⟨#[43]⟩, .string ⟨#[37]⟩, .string ⟨#[37, 37]⟩, .string ⟨#[35]⟩, .string ⟨#[35, 35]⟩] 9) = X := ⟨_, rfl⟩
          have hXN : Hid (Blk X w1.heap.size 9 opsA) := Lib.hid (by rw [← hX]; exact Blk.new w1 _ _)
          have hXs : Hid (X.heap.size = w1.heap.size + 1) := Lib.hid (by rw [← hX]; simp)
          have hXb : Hid (Below w.heap.size w X) := Lib.hid (by rw [← hX]; exact hb1H.out.trans (((Below.refl _ _).alloc (Nat.le_refl _) _).mono hb1H.out.size))
          rw [hX]
          clear hX
          refine (hA.out _).mono ?_
          rintro e w2 ⟨ra, ca, Ta, rfl, hWa, hTa, hb2⟩
          obtain ⟨ga, xa, pa, rfl, hTga, hpa, hxa, a0, a1, a2, _, _⟩ := part_at (j := 0) hWa Nat.zero_lt_one
          cases hpa
          rw [Nat.zero_mul] at a0 a1 a2
          rw [hxa.1] at a0
          rw [hxa.2.1] at a1
          rw [hxa.2.2.1] at a2
          have hgl := (hTa ga hTga).2
          have hb2H := Lib.hid (hXb.out.trans (hb2.mono hXb.out.size))
          have ck : w2.cell? ⟨w1.heap.size, k, none⟩ = some (.string O) := (hb2.cell (p := ⟨w1.heap.size, k, none⟩) (by show w1.heap.size < _; rw [hXs.out]; omega)).trans ((hXN.out.cell k).trans hOk.out)
          have hsz2 : w1.heap.size < w2.heap.size := by have := hb2.size; rw [hXs.out] at this; omega
          have hg2 := Lib.hid (hgH.out.below hb2H.out hgs)
          clear hWa hTa hb2 hxa
          go_wp2_with fail
          have hkI : (0 : Int) ≤ (k : Int) := by omega
          have hkI2 : (k : Int) < 12 := by omega
          have ckd : w2.drew.cell? ⟨w1.heap.size, k, none⟩ = some (.string O) := ck
          have hz2 : (⟨#[36, 123]⟩ : ByteArray).size = 2 := rfl
          have hz1' : (⟨#[125]⟩ : ByteArray).size = 1 := rfl
          have hqz2 := hqzH.out
          have hadd1 : ∀ w : World, (Op.stringOp .add ⟨#[36, 123]⟩ nm).run Tryd.prog w = .ok (.string (⟨#[36, 123]⟩ ++ nm)) w := fun w => run_string_add_sum w _ _ (by rw [hz2]; omega)
          have hadd2 : ∀ w : World, (Op.stringOp .add (⟨#[36, 123]⟩ ++ nm) O).run Tryd.prog w = .ok (.string (⟨#[36, 123]⟩ ++ nm ++ O)) w := fun w => run_string_add_sum w _ _ (by rw [ByteArray.size_append, hz2]; omega)
          have hadd3 : ∀ w : World, (Op.stringOp .add (⟨#[36, 123]⟩ ++ nm ++ O) (quoT s)).run Tryd.prog w = .ok (.string (⟨#[36, 123]⟩ ++ nm ++ O ++ quoT s)) w := fun w => run_string_add_sum w _ _ (by rw [ByteArray.size_append, ByteArray.size_append, hz2]; omega)
          have hadd4 : ∀ w : World, (Op.stringOp .add (⟨#[36, 123]⟩ ++ nm ++ O ++ quoT s) ⟨#[125]⟩).run Tryd.prog w = .ok (.string (⟨#[36, 123]⟩ ++ nm ++ O ++ quoT s ++ ⟨#[125]⟩)) w := fun w => run_string_add_sum w _ _ (by rw [ByteArray.size_append, ByteArray.size_append, ByteArray.size_append, hz2, hz1']; omega)
          have hs3 : s.size ≤ 100000 := by omega
          have hnz : nm.size ≤ 300 := by omega
          have ho1H := Lib.hid (And.intro ho1 ho2)
          have hhH := Lib.hid (And.intro hz0 (And.intro hz1 (And.intro h3 h3I)))
          clear ho1 ho2 hz0 hz1 h3 h3I hz2 hz1' hqz2
          go_region_held3 (fun w' => w'.cell? ⟨w1.heap.size, k, none⟩ = some (.string O))
            (first | with_reducible exact ckd | with_reducible assumption | exact ck3 | exact ck4 | fail)
            ((first
              | (go_at_call 7; refine (quo_any s hs3 _ (show Gl w2.drew from ⟨hg2.out.c3⟩)).mono ?_; rintro e w3 ⟨rfl, hb3⟩; have ck3 : w3.cell? ⟨w1.heap.size, k, none⟩ = some (.string O) := (hb3.cell (p := ⟨w1.heap.size, k, none⟩) hsz2).trans ck)
              | (go_at_call 6; refine (hB.out _).mono ?_; rintro e w4 ⟨rb, cb, Tb, rfl, hWb, hTb, hb4⟩; have ck4 : w4.cell? ⟨w1.heap.size, k, none⟩ = some (.string O) := (hb4.cell (p := ⟨w1.heap.size, k, none⟩) (Nat.lt_of_lt_of_le hsz2 hb3.size)).trans ck3)
              | fail))
          have hs3' : w2.heap.size ≤ w3.heap.size := hb3.size
          have hs4' : w3.heap.size ≤ w4.heap.size := hb4.size
          have up4 : ∀ {o : Nat} {v : Value}, w2.cell? ⟨ga, o, none⟩ = some v → w4.cell? ⟨ga, o, none⟩ = some v := fun h => (hb4.cell (by show ga < w3.heap.size; omega)).trans ((hb3.cell (by show ga < w2.heap.size; exact hgl)).trans h)
          have a0' := up4 a0
          have a1' := up4 a1
          have a2' := up4 a2
          obtain ⟨gb, xb, pb, rfl, hTgb, hpb, hxb, b0, b1, b2, b3, _⟩ := part_at (j := 0) hWb Nat.zero_lt_one
          cases hpb
          rw [Nat.zero_mul] at b1 b2 b3
          rw [hxb.2.1] at b1
          rw [hxb.2.2.1] at b2
          have hWx : WAt w4 Tb 24 (.slice xb.wa xb.wn xb.wc) [litT s.data.toList q] := hxb.2.2.2.2
          obtain ⟨av, cv, hv⟩ : ∃ av cv, Value.slice xb.wa xb.wn xb.wc = .slice av 1 cv := by
            obtain ⟨pts, ⟨base, hr⟩, _⟩ := hWx
            exact ownsRow_slice hr
          rw [hv] at hWx b3
          have hgbl := (hTb gb hTgb).2
          have hbw4 := Lib.hid (hb2H.out.trans (((show Below w2.heap.size w2 w3 from ⟨hb3.os, hb3.tape, hb3.output, hb3.size, hb3.block⟩).trans (hb4.mono hs3')).mono hb2H.out.size))
          have hWxH := Lib.hid hWx
          have hTbH := Lib.hid hTb
          clear a0 a1 a2 up4 hWb hxb b0 hb3 hb4 hWx hTb ck ckd ck3 hadd1 hadd2 hadd3 hadd4
          go_wp2_with fail
          refine (hC.out _).mono ?_
          rintro e w5 ⟨rc, cc, Tc, rfl, hWc, hTc, hb5⟩
          obtain ⟨gc, xc, pc, rfl, hTgc, hpc, hxc, _, c1, c2, _, _⟩ := part_at (j := 0) hWc Nat.zero_lt_one
          cases hpc
          rw [Nat.zero_mul] at c1 c2
          rw [hxc.2.1] at c1
          rw [hxc.2.2.1] at c2
          have hgcl := (hTc gc hTgc).2
          have hs5' : w4.heap.size ≤ w5.heap.size := hb5.size
          have a0 : w5.cell? ⟨ga, 0, none⟩ = some (.int .i64 2) := (hb5.cell (by show ga < w4.heap.size; omega)).trans a0'
          have a1 : w5.cell? ⟨ga, 1, none⟩ = some (.string nm) := (hb5.cell (by show ga < w4.heap.size; omega)).trans a1'
          have a2 : w5.cell? ⟨ga, 2, none⟩ = some (.string ⟨#[]⟩) := (hb5.cell (by show ga < w4.heap.size; omega)).trans a2'
          have b1' : w5.cell? ⟨gb, 1, none⟩ = some (.string nm) := (hb5.cell (by show gb < w4.heap.size; exact hgbl)).trans b1
          have b2' : w5.cell? ⟨gb, 2, none⟩ = some (.string O) := (hb5.cell (by show gb < w4.heap.size; exact hgbl)).trans b2
          have b3' : w5.cell? ⟨gb, 3, none⟩ = some (.slice av 1 cv) := (hb5.cell (by show gb < w4.heap.size; exact hgbl)).trans b3
          have ck5 : w5.cell? ⟨w1.heap.size, k, none⟩ = some (.string O) := (hb5.cell (by show w1.heap.size < w4.heap.size; omega)).trans ck4
          have c1' : w5.cell? ⟨gc, 1, none⟩ = some (.string nm) := c1
          have c2' : w5.cell? ⟨gc, 2, none⟩ = some (.string ⟨#[108, 101, 110]⟩) := c2
          have hst := Lib.hid (static_any (w := w5) (l := [litT s.data.toList q]) (WAt_mono (fun _ h => h) (fun g hg => hb5.block g (hTbH.out g hg).2) _ _ _ hWxH.out) (fun g hg => by have := (hTbH.out g hg).2; omega) (by show (⟨s.data.toList.toArray⟩ : ByteArray).size + 0 ≤ _; rw [mk_data]; omega) (by show 1 ≤ _; omega))
          have hbw5 := Lib.hid (hbw4.out.trans (hb5.mono hbw4.out.size))
          clear a0' a1' a2' b1 b2 b3 c1 c2 ck4 hb5 hWc hTc hxc
          go_wp2_with fail
          refine hst.out.mono ?_
          rintro e w6 ⟨rfl, hb6⟩
          rw [lits_one, show StatV (some s.data.toList) = .tuple #[.string s, .bool true] by show Value.tuple #[.string (⟨s.data.toList.toArray⟩ : ByteArray), .bool true] = _; rw [mk_data]]
          have r0 : w6.cell? ⟨ga, 0, none⟩ = some (.int .i64 2) := (hb6.cell (by show ga < w5.heap.size; omega)).trans a0
          have r1 : w6.cell? ⟨ga, 1, none⟩ = some (.string nm) := (hb6.cell (by show ga < w5.heap.size; omega)).trans a1
          have r2 : w6.cell? ⟨ga, 2, none⟩ = some (.string ⟨#[]⟩) := (hb6.cell (by show ga < w5.heap.size; omega)).trans a2
          have r3 : w6.cell? ⟨gb, 1, none⟩ = some (.string nm) := (hb6.cell (by show gb < w5.heap.size; omega)).trans b1'
          have r4 : w6.cell? ⟨gb, 2, none⟩ = some (.string O) := (hb6.cell (by show gb < w5.heap.size; omega)).trans b2'
          have r5 : w6.cell? ⟨w1.heap.size, k, none⟩ = some (.string O) := (hb6.cell (by show w1.heap.size < w5.heap.size; omega)).trans ck5
          have r6 : w6.cell? ⟨gc, 1, none⟩ = some (.string nm) := (hb6.cell hgcl).trans c1'
          have r7 : w6.cell? ⟨gc, 2, none⟩ = some (.string ⟨#[108, 101, 110]⟩) := (hb6.cell hgcl).trans c2'
          have hfin := Lib.hid (hbw5.out.trans (hb6.mono hbw5.out.size))
          clear a0 a1 a2 b1' b2' b3' c1' c2' ck5 hb6
          go_wp2_with fail
          go_quiet (fail)
          go_wp2
          go_ret
          exact ⟨rfl, below_drewN hfin.out _⟩
end Go.Proofs.YtgpkhpheomaiaaaDoor
