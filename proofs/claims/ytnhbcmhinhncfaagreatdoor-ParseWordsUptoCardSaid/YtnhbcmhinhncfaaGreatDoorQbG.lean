/- A simple command, or a function. Conditions: the parser lies as stated; a body's contract is handed in. -/
import Derived.Test.YtnhbcmhinhncfaaGreatDoorQbF
import Derived.Deep.RegionLaw
namespace Go.Proofs.YtnhbcmhinhncfaaGreatDoor
open Go.RowKit Go.Shelf Go.PlainAid
set_option linter.unusedVariables false
set_option linter.unusedSimpArgs false
attribute [local go_sem] Oper.semAt_some
section
variable {b : Nat} {s : ByteArray} {w : World} {st : PS} {B : Int → PS → Nd × PS} {d : Int}
/-- What holds at the head of the loop. -/
structure SmI (b q4 q5 : Nat) (s : ByteArray) (w : World) (A : Nd × PS) (B : Int → PS → Nd × PS) (d : Int) (st0 : PS) (ws : List ByteArray) (rs : List Rd) (f : Nat) (W : World) : Prop where
  pf : PF b s W st0
  fb : Fb b w W
  z : Blk W q4 30 N7
  nd : ∃ (a : Option Addr) (c : Nat) (a2 : Option Addr) (c2 : Nat), NdB q5 w.heap.size 1 false false ⟨#[]⟩ ws rs [] (.slice a ws.length c) (.slice a2 rs.length c2) (.slice none 0 0) (fun _ => False) W ∧ (Value.slice a ws.length c).ownBlock ≠ some q4 ∧ (Value.slice a2 rs.length c2).ownBlock ≠ some q4
  an : A = simP s B d f ws rs st0
  lf : rem s st0 < f
  ln : ws.length + rs.length + rem s st0 ≤ 140001
  jj : 24 < d → rem s st0 = 0
theorem sim_is (f : Nat) (ws : List ByteArray) (rs : List Rd) (st : PS) : simP s B d (f + 1) ws rs st = if redT (peekP s st) = true then simP s B d f ws (rs ++ [(redP s st).1]) (redP s st).2
    else if (peekP s st).kind = 1 then
      (if (ws.isEmpty && rs.isEmpty && hasO s [40] (needP s (!ws.isEmpty || !rsvW (peekP s st).text) st) && Go.Proofs.YtnhbcmhinhncfaaGreatDoor.W.isName (peekP s st).text) = true then funP s B (peekP s st).text d (needP s (!ws.isEmpty || !rsvW (peekP s st).text) st)
      else simP s B d f (ws ++ [(peekP s st).text]) rs (if (ws.isEmpty && rs.isEmpty) = true then fill s (needP s (!ws.isEmpty || !rsvW (peekP s st).text) st) else needP s (!ws.isEmpty || !rsvW (peekP s st).text) st))
    else (.mk 1 false false noB ws rs [], if (ws.isEmpty && rs.isEmpty) = true then needP s false st else fill s st) := rfl
theorem rem_pos (h : PW s st) (hk : (peekP s st).kind ≠ 0) : 0 < rem s st := by
  have := rem_taken h hk
  omega
set_option maxRecDepth 100000 in
set_option maxHeartbeats 8000000 in
theorem simple_f (hd0 : 0 ≤ d) (hB : ∀ (d : Int) (st : PS), PW s st → Lo s st (B d st).2) (hC : d + 1 ≤ 24 → BodyC s B (d + 1 + 1)) (hj : 24 < d → rem s st = 0) (h : PF b s w st) : Calls Tryz.prog 91 #[ptr b, .int .i64 d] w (NdAn b s w (simP s B d (rem s st + 1) [] [] st).1 (simP s B d (rem s st + 1) [] [] st).2) := by
  obtain ⟨i0, hi0, hz0, hz1, hz2⟩ := info_parts infoSt
  have hi0H := Lib.hid hi0
  obtain ⟨i1, hi1, hy0, hy1, hy2⟩ := info_parts infoRr
  have hi1H := Lib.hid hi1
  obtain ⟨q4, hq4⟩ : ∃ x, w.heap.size = x := ⟨_, rfl⟩
  obtain ⟨q5, hq5⟩ : ∃ x, w.heap.size + 1 = x := ⟨_, rfl⟩
  have hlt := h.lt
  have h16 := h.b16
  have hqb2 : q4 ≠ b := by omega
  have hqb5 : q5 ≠ b := by omega
  have hq16 : 8 ≤ q4 := by omega
  have hq516 : 8 ≤ q5 := by omega
  have hq45 : ¬ q4 = q5 := by omega
  have hqw5 : w.heap.size ≤ q5 := by omega
  obtain ⟨W, hW⟩ : ∃ W, w.alloc (.cells N7 30) = W := ⟨_, rfl⟩
  have e5 : W.heap.size = q5 := by rw [← hW, World.size_alloc, hq5]
  obtain ⟨W1, hW1⟩ : ∃ W1, W.alloc (.cells #[.int .i64 1, .bool false, .bool false, .string ⟨#[]⟩, .slice none 0 0, .slice none 0 0, .slice none 0 0] 30) = W1 := ⟨_, rfl⟩
  have hb1 : Below w.heap.size w W1 := by rw [← hW1, ← hW]; exact ((Below.refl _ _).alloc (Nat.le_refl _) _).alloc (by rw [World.size_alloc]; omega) _
  have hZ : Blk W1 q4 30 N7 := by rw [← hW1, ← hW, ← hq4]; exact (Blk.new _ _ _).alloc _
  have hB5 : Blk W1 q5 30 #[.int .i64 1, .bool false, .bool false, .string ⟨#[]⟩, .slice none 0 0, .slice none 0 0, .slice none 0 0] := by rw [← hW1, ← e5]; exact Blk.new _ _ _
  have hWH := Lib.hid hW
  have hW1H := Lib.hid hW1
  have hq4H := Lib.hid hq4
  have e5H := Lib.hid e5
  obtain ⟨A, hA⟩ : ∃ A, simP s B d (rem s st + 1) [] [] st = A := ⟨_, rfl⟩
  rw [hA]
  obtain ⟨nA, sA⟩ := A
  have hst := Lib.hid (show SmI b q4 q5 s w (nA, sA) B d st [] [] (rem s st + 1) W1 from ⟨h.below hb1, Fb.of_below hb1, hZ, ⟨none, 0, none, 0, NdB.new_ _ hB5, by simp [Value.ownBlock], by simp [Value.ownBlock]⟩, hA.symm, Nat.lt_succ_self _, by have := rem_bd h.ok; show 0 + 0 + rem s st ≤ 140001; omega, hj⟩)
  have e0 := fldk
  have e1 := fldx
  have hCH := Lib.hid hC
  have hBH := Lib.hid hB
  have hrem : rem s st = rem s st := rfl
  clear hW hW1 hb1 h hq4 hq5 e5 hA hZ hB5 hC hB hi0 hi1 hj
  go_enter Tryz.func91, Tryz.ntmps91
  go_upto_region 1 with fail
  rw [hWH.out, hq4H.out]
  go_wp2_with fail
  rw [hW1H.out, e5H.out]
  go_loopg [8] (rem s st) (fun g _ wr => ∃ (st5 : PS) (ws : List ByteArray) (rs : List Rd) (f : Nat), g = rem s st5 ∧ Hid (SmI b q4 q5 s w (nA, sA) B d st5 ws rs f wr))
  case atStart => exact ⟨st, [], [], _, rfl, hst⟩
  case round =>
    clear hst
    obtain ⟨st5, ws, rs, f, hg, hI⟩ := hrel
    obtain ⟨f, rfl⟩ : ∃ f', f = f' + 1 := ⟨f - 1, by have := hI.out.lf; omega⟩
    have hok5 := Lib.hid hI.out.pf.ok
    have hpk5 := Lib.hid (peek_f hI.out.pf)
    have han := hI.out.an
    rw [sim_is] at han
    have hrdc := Lib.hid (fun W (hp : PF b s W st5) => isRed_f hp)
    have hlnH := Lib.hid hI.out.ln
    have hlfH := Lib.hid hI.out.lf
    have hjjH := Lib.hid hI.out.jj
    have hgH := Lib.hid hg
    have hfbH := Lib.hid hI.out.fb
    have hzH := Lib.hid hI.out.z
    have hpos := Lib.hid (fun (hk : (peekP s st5).kind ≠ 0) => rem_pos hok5.out hk)
    have htb := Lib.hid (fun (hk : (peekP s st5).kind ≠ 0) => peek_tkb hok5.out hk)
    have hrk := Lib.hid (show redT (peekP s st5) = true → (peekP s st5).kind ≠ 0 from fun e => by
      unfold redT at e
      intro e2
      rw [e2] at e
      simp at e)
    obtain ⟨v, hv⟩ : ∃ v, peekP s st5 = v := ⟨_, rfl⟩
    rw [hv] at hpk5 han hrdc hpos htb hrk
    obtain ⟨rb, hrb⟩ : ∃ r, redT v = r := ⟨_, rfl⟩
    rw [hrb] at han hrdc hrk
    obtain ⟨a5, k5, a6, k6, hN5', ho5', ho6'⟩ := hI.out.nd
    have hNH := Lib.hid hN5'
    have hoW := Lib.hid ho5'
    have hoR := Lib.hid ho6'
    obtain ⟨nW, hnW⟩ : ∃ n, ws.length = n := ⟨_, rfl⟩
    obtain ⟨nR, hnR⟩ : ∃ n, rs.length = n := ⟨_, rfl⟩
    rw [hnW] at hNH hoW hlnH
    rw [hnR] at hNH hoR hlnH
    have hnWH := Lib.hid hnW
    have hnRH := Lib.hid hnR
    clear hg hv hrb hN5' ho5' ho6' hI hnW hnR
    go_upto_region 6 with (go_at_call 20; refine hpk5.out.mono ?_; rintro e w9 ⟨rfl, hA9, hF9⟩; have hA9H := Lib.hid hA9; have hF9H := Lib.hid hF9; clear hA9 hF9)
    obtain ⟨q6, hq6⟩ : ∃ q, w9.heap.size = q := ⟨_, rfl⟩
    obtain ⟨W3, hW3⟩ : ∃ W, w9.alloc (.cells (tkC v) 58) = W := ⟨_, rfl⟩
    have hb3 : Below w9.heap.size w9 W3 := by rw [← hW3]; exact (Below.refl _ _).alloc (Nat.le_refl _) _
    have hk3 := Lib.hid (show Blk W3 q6 58 (tkC v) by rw [← hW3, ← hq6]; exact Blk.new _ _ _)
    have hf3 := hF9H.out.trans (Fb.of_below hb3)
    have hq6b : q6 ≠ b := by have := (hfbH.out.trans hF9H.out).size; omega
    have hrd3 := Lib.hid (hrdc.out _ (hA9H.out.below hb3))
    have hw3 := Lib.hid (hfbH.out.trans hf3)
    have hz3 := Lib.hid (hf3.blk hzH.out hqb2)
    have hn3 := Lib.hid (hNH.out.keep hf3 hlt hqb5)
    have hoT0 := Lib.hid (show (Value.slice a5 nW k5).ownBlock ≠ some q6 from fun e => by have h1 := (hNH.out.rw_.own_lt e).2; have h2 := hF9H.out.size; omega)
    have hq65 : ¬ q6 = q5 := fun e => by have h1 := hNH.out.blk.lt; have h2 := hF9H.out.size; omega
    rw [hW3, hq6]
    clear hW3 hb3 hq6 hf3 hrdc hpk5 hfbH hzH hNH hF9H
    cases rb
    · rw [if_neg (by decide)] at han
      go_upto_region 8 with (go_at_call 106; refine hrd3.out.mono ?_; rintro e w10 ⟨rfl, hA10, hF10⟩; have hA10H := Lib.hid hA10; have hw10 := Lib.hid (hw3.out.trans hF10); have hz10 := Lib.hid (hF10.blk hz3.out hqb2); have hn10 := Lib.hid (hn3.out.keep hF10 hlt hqb5); have hk10 := Lib.hid (hF10.blk hk3.out hq6b); clear hA10 hF10)
      have t0 : w10.cell? ⟨q6, 0, none⟩ = some (.int .i64 v.kind) := hk10.out.cell 0
      have t1 : w10.cell? ⟨q6, 1, none⟩ = some (.string v.text) := hk10.out.cell 1
      have n4 : w10.cell? ⟨q5, 4, none⟩ = some (.slice a5 nW k5) := hn10.out.blk.cell 4
      have n5 : w10.cell? ⟨q5, 5, none⟩ = some (.slice a6 nR k6) := hn10.out.blk.cell 5
      clear hw3 hz3 hn3 hk3 hrd3 hA9H
      cases hk1 : (v.kind == 1)
      · have hk1' : ¬ v.kind = 1 := fun e => by rw [e] at hk1; cases hk1
        rw [if_neg hk1'] at han
        have hanH := Lib.hid han
        clear han hk1'
        rcases Nat.eq_zero_or_pos nW with hw0 | hw0
        · subst hw0
          obtain rfl : ws = [] := List.length_eq_zero_iff.1 hnWH.out
          rcases Nat.eq_zero_or_pos nR with hr0 | hr0
          · subst hr0
            obtain rfl : rs = [] := List.length_eq_zero_iff.1 hnRH.out
            obtain ⟨rfl, rfl⟩ : nA = .mk 1 false false noB [] [] [] ∧ sA = needP s false st5 := by simpa using hanH.out
            have hnd := Lib.hid (need_f hA10H.out false)
            clear hanH
            go_wp2_with (go_at_call 22; refine hnd.out.mono ?_; rintro e w11 ⟨rfl, hA, hF⟩; have hpE := Lib.hid hA; have hFF := Lib.hid hF; have hz12 := Lib.hid (hF.blk hz10.out hqb2); have hn12 := Lib.hid (hn10.out.keep hF hlt hqb5); have c0 := hn12.out.blk.cell 0; have c1 := hn12.out.blk.cell 1; have c2 := hn12.out.blk.cell 2; have c3 := hn12.out.blk.cell 3; have c4 := hn12.out.blk.cell 4; have c5 := hn12.out.blk.cell 5; have c6 := hn12.out.blk.cell 6; have z0 := hz12.out.cell 0; have z1 := hz12.out.cell 1; have z2 := hz12.out.cell 2; have z3 := hz12.out.cell 3; have z4 := hz12.out.cell 4; have z5 := hz12.out.cell 5; have z6 := hz12.out.cell 6; have g0 := hz12.out.frozen 0; have g1 := hz12.out.frozen 1; have g2 := hz12.out.frozen 2; have g3 := hz12.out.frozen 3; have g4 := hz12.out.frozen 4; have g5 := hz12.out.frozen 5; have g6 := hz12.out.frozen 6; clear hA hF)
            refine bodyPost_ret (results_cell_row rfl _ _ q4 30 #[.int .i64 1, .bool false, .bool false, .string ⟨#[]⟩, .slice a5 0 k5, .slice a6 0 k6, .slice none 0 0] (0, 0) _ rfl (put7_blk hz12.out _ _ _ _ _ _ _) Tryz.underlying30 rfl (by kernel_rfl)) rfl ?_
            have h9 := NdB.hd (b := b) (w := w) hn12.out
            exact h9.1.an hz12.out (h9.2.2 _ id hoW.out hoR.out (by simp [Value.ownBlock])) (Nat.le_of_eq hq4H.out) hqb2 hq16 hpE.out (hw10.out.trans hFF.out)
          · have hr1 : ((nR : Int) == 0) = false := beq_eq_false_iff_ne.2 (by omega)
            have hr2 := Lib.hid (show rs ≠ [] from fun e => by have := hnRH.out; rw [e] at this; simp at this; omega)
            obtain ⟨rfl, rfl⟩ : nA = .mk 1 false false noB [] rs [] ∧ sA = fill s st5 := by
              have := hanH.out
              rw [if_neg (fun e => hr2.out (by simpa using e))] at this
              simpa using this
            clear hanH hr0
            have c0 := hn10.out.blk.cell 0
            have c1 := hn10.out.blk.cell 1
            have c2 := hn10.out.blk.cell 2
            have c3 := hn10.out.blk.cell 3
            have c4 := hn10.out.blk.cell 4
            have c5 := hn10.out.blk.cell 5
            have c6 := hn10.out.blk.cell 6
            have z0 := hz10.out.cell 0
            have z1 := hz10.out.cell 1
            have z2 := hz10.out.cell 2
            have z3 := hz10.out.cell 3
            have z4 := hz10.out.cell 4
            have z5 := hz10.out.cell 5
            have z6 := hz10.out.cell 6
            have g0 := hz10.out.frozen 0
            have g1 := hz10.out.frozen 1
            have g2 := hz10.out.frozen 2
            have g3 := hz10.out.frozen 3
            have g4 := hz10.out.frozen 4
            have g5 := hz10.out.frozen 5
            have g6 := hz10.out.frozen 6
            have hFF := Lib.hid (Fb.refl b w10)
            have hz12 := hz10
            have hn12 := hn10
            have hpE := Lib.hid hA10H.out.fill
            go_wp2_with fail
            refine bodyPost_ret (results_cell_row rfl _ _ q4 30 #[.int .i64 1, .bool false, .bool false, .string ⟨#[]⟩, .slice a5 0 k5, .slice a6 nR k6, .slice none 0 0] (0, 0) _ rfl (put7_blk hz12.out _ _ _ _ _ _ _) Tryz.underlying30 rfl (by kernel_rfl)) rfl ?_
            have h9 := NdB.hd (b := b) (w := w) hn12.out
            exact h9.1.an hz12.out (h9.2.2 _ id hoW.out hoR.out (by simp [Value.ownBlock])) (Nat.le_of_eq hq4H.out) hqb2 hq16 hpE.out (hw10.out.trans hFF.out)
        · have hw1 : ((nW : Int) == 0) = false := beq_eq_false_iff_ne.2 (by omega)
          have hw2 := Lib.hid (show ws ≠ [] from fun e => by have := hnWH.out; rw [e] at this; simp at this; omega)
          obtain ⟨rfl, rfl⟩ : nA = .mk 1 false false noB ws rs [] ∧ sA = fill s st5 := by
            have := hanH.out
            rw [if_neg (fun e => by rw [Bool.and_eq_true] at e; exact hw2.out (List.isEmpty_iff.1 e.1))] at this
            simpa using this
          clear hanH hw0
          have c0 := hn10.out.blk.cell 0
          have c1 := hn10.out.blk.cell 1
          have c2 := hn10.out.blk.cell 2
          have c3 := hn10.out.blk.cell 3
          have c4 := hn10.out.blk.cell 4
          have c5 := hn10.out.blk.cell 5
          have c6 := hn10.out.blk.cell 6
          have z0 := hz10.out.cell 0
          have z1 := hz10.out.cell 1
          have z2 := hz10.out.cell 2
          have z3 := hz10.out.cell 3
          have z4 := hz10.out.cell 4
          have z5 := hz10.out.cell 5
          have z6 := hz10.out.cell 6
          have g0 := hz10.out.frozen 0
          have g1 := hz10.out.frozen 1
          have g2 := hz10.out.frozen 2
          have g3 := hz10.out.frozen 3
          have g4 := hz10.out.frozen 4
          have g5 := hz10.out.frozen 5
          have g6 := hz10.out.frozen 6
          have hFF := Lib.hid (Fb.refl b w10)
          have hz12 := hz10
          have hn12 := hn10
          have hpE := Lib.hid hA10H.out.fill
          go_wp2_with fail
          refine bodyPost_ret (results_cell_row rfl _ _ q4 30 #[.int .i64 1, .bool false, .bool false, .string ⟨#[]⟩, .slice a5 nW k5, .slice a6 nR k6, .slice none 0 0] (0, 0) _ rfl (put7_blk hz12.out _ _ _ _ _ _ _) Tryz.underlying30 rfl (by kernel_rfl)) rfl ?_
          have h9 := NdB.hd (b := b) (w := w) hn12.out
          exact h9.1.an hz12.out (h9.2.2 _ id hoW.out hoR.out (by simp [Value.ownBlock])) (Nat.le_of_eq hq4H.out) hqb2 hq16 hpE.out (hw10.out.trans hFF.out)
      · have hk1' : v.kind = 1 := eq_of_beq hk1
        rw [if_pos hk1'] at han
        have hanH := Lib.hid han
        clear han
        have hd24 : d ≤ 24 := by
          rcases Int.lt_or_le 24 d with hd | hd
          · have h1 := hjjH.out hd
            have h2 := hpos.out (by rw [hk1']; decide)
            omega
          · exact hd
        have htx := Lib.hid (htb.out (by rw [hk1']; decide)).le
        have hrsv := Lib.hid (rsvW_any v.text w10)
        obtain ⟨r, hr⟩ : ∃ r, rsvW v.text = r := ⟨_, rfl⟩
        rw [hr] at hrsv hanH
        obtain ⟨m, hm⟩ : ∃ m, (!ws.isEmpty || !r) = m := ⟨_, rfl⟩
        rw [hm] at hanH
        have hne := Lib.hid (fun W (hp : PF b s W st5) => need_f hp m)
        have hlt6 := lt_need hok5.out m
        obtain ⟨s6, hs6⟩ : ∃ x, needP s m st5 = x := ⟨_, rfl⟩
        rw [hs6] at hne hanH hlt6
        have hless := Lib.hid (show rem s s6 < rem s st5 by
          have h1 := hpos.out (by rw [hk1']; decide)
          rcases hlt6.lt with h2 | h2
          · exact h2
          · omega)
        have hok6 := Lib.hid hlt6.ok
        have hmH := Lib.hid hm
        clear hs6 hm hr hlt6
        go_upto_region 9 with fail
        go_cut [] from 8 to 79 (fun wx => Hid (PF b s wx s6 ∧ Fb b w10 wx))
        case first =>
          have hm := hmH.out
          rcases Nat.eq_zero_or_pos nW with hw0 | hw0
          · subst hw0
            obtain rfl : ws = [] := List.length_eq_zero_iff.1 hnWH.out
            have hm2 : (!r) = m := by rw [← hm]; simp
            clear hm hanH
            go_wp2_with (first
              | (go_at_call 89; refine hrsv.out.mono ?_; rintro e w11 ⟨rfl, rfl⟩)
              | (go_at_call 22; (try rw [hm2]); refine (hne.out _ hA10H.out).mono ?_; rintro e w11 ⟨rfl, hA, hF⟩; have hA11 := Lib.hid hA; have hF11 := Lib.hid hF; clear hA hF))
            go_meet
            case rel => exact Lib.hid ⟨hA11.out, hF11.out⟩
          · have hm2 : true = m := by
              rw [← hm]
              cases ws with
              | nil => have h1 := hnWH.out; simp at h1; omega
              | cons x l => rfl
            subst hm2
            clear hm hanH
            go_wp2_with (go_at_call 22; refine (hne.out _ hA10H.out).mono ?_; rintro e w11 ⟨rfl, hA, hF⟩; have hA11 := Lib.hid hA; have hF11 := Lib.hid hF; clear hA hF)
            go_meet
            case rel => exact Lib.hid ⟨hA11.out, hF11.out⟩
        case rest =>
          have hpc := Lib.hid hcut.out.1
          have hfc := Lib.hid hcut.out.2
          have hwc := Lib.hid (hw10.out.trans hfc.out)
          have hzc := Lib.hid (hfc.out.blk hz10.out hqb2)
          have hnc := hn10.out.keep hfc.out hlt hqb5
          have hkc := Lib.hid (hfc.out.blk hk10.out hq6b)
          have t2 : wc.cell? ⟨q6, 1, none⟩ = some (.string v.text) := hkc.out.cell 1
          have m4 : wc.cell? ⟨q5, 4, none⟩ = some (.slice a5 nW k5) := hnc.blk.cell 4
          have hb12 : Below wc.heap.size wc (wc.alloc (.cells #[.string v.text] 9)) := (Below.refl _ _).alloc (Nat.le_refl _) _
          have hN12 := Lib.hid (hnc.keep (Fb.of_below (b := b) hb12) hlt hqb5)
          have hs12 : (wc.alloc (.cells #[.string v.text] 9)).heap.size = wc.heap.size + 1 := World.size_alloc _ _
          have hb12H := Lib.hid hb12
          have hoT := Lib.hid (show (Value.slice a5 nW k5).ownBlock ≠ some q6 from fun e => hoT0.out e)
          have hcs : w.heap.size ≤ wc.heap.size := hwc.out.size
          have hln1 := hlnH.out
          obtain ⟨K5, hown5, hat5⟩ := hN12.out.rw_.row
          rw [hnWH.out] at hown5
          have hown5H := Lib.hid hown5
          have hat5H := Lib.hid hat5
          clear hcut hnc hb12 hown5 hat5 hrsv hne t0 t1 n4 n5 hA10H hn10 hz10 hw10 hk10
          go_upto_region 11 with (at_builtin; refine wpList_app4 rfl _ _ 27 rfl w.heap.size 9 i0 _ 1 16 Tryz.underlying27 hi0H.out hz0 hz1 hz2 rfl (by decide) (.slice a5 nW k5) nW (flat K5 nW) (by rfl) hown5H.out (some ⟨wc.heap.size, 0, none⟩) 1 1 [.string v.text] (by rfl) (by rfl) (src_blk (Blk.new wc _ _)) (by intro u hu; simp at hu; rw [hu]; rfl) (by omega) (by omega) (by rw [hs12]; omega) ?_; intro a7 k7 w6 hown6 hg6 ho6; have hB7 : Blk w6 q5 30 #[.int .i64 1, .bool false, .bool false, .string ⟨#[]⟩, .slice a5 nW k5, .slice a6 nR k6, .slice none 0 0] := (hg6.block q5 hN12.out.blk.lt (fun e => hN12.out.qw e.symm)).trans hN12.out.blk; have hB7H := Lib.hid hB7; have u4 : w6.cell? ⟨q5, 4, none⟩ = some (.slice a5 nW k5) := hB7.cell 4; have v4 := hB7.frozen 4; have hown6H := Lib.hid hown6; have hg6H := Lib.hid hg6; have ho6H := Lib.hid ho6; clear hB7 hown6 hg6 ho6)
          obtain ⟨k1, k2, k3⟩ := app_words (ys := [v.text]) (L := fun _ => [.string v.text]) (K := K5) hN12.out (hpc.out.below hb12H.out) (hwc.out.trans (Fb.of_below hb12H.out)) hlt hqb5 hq516 hqw5 (by rw [hnWH.out]; exact hown6H.out) hat5H.out (by rw [hnWH.out]; rfl) (fun j u hj => by
            cases j with
            | zero =>
              obtain rfl : v.text = u := by simpa using hj
              rfl
            | succ j => simp at hj) hg6H.out ho6H.out (fun g e => (hN12.out.rw_.own_lt e).1)
          have hz13 : Blk (w6.setCell ⟨q5, 4, none⟩ (.slice a7 (nW + 1) k7)) q4 30 N7 := (Below.heap_setCell _ _ _ _ hq45).trans ((hg6H.out.block q4 (by have := hzc.out.lt; omega) (fun e => hoW.out e.symm)).trans ((Fb.of_below (b := b) hb12H.out).blk hzc.out hqb2))
          have ho13 : (Value.slice a7 (nW + 1) k7).ownBlock ≠ some q4 := fun e => by
            rcases ho6H.out with h6 | h6
            · exact hoW.out (h6.symm.trans e)
            · have h7 := Option.some.inj (h6.symm.trans e)
              have h8 := hzc.out.lt
              omega
          have hk13 : Blk (w6.setCell ⟨q5, 4, none⟩ (.slice a7 (nW + 1) k7)) q6 58 (tkC v) := (Below.heap_setCell _ _ _ _ hq65).trans ((hg6H.out.block q6 (by have := hkc.out.lt; omega) (fun e => hoT.out e.symm)).trans ((Fb.of_below (b := b) hb12H.out).blk hkc.out hq6b))
          obtain ⟨W14, hW14⟩ : ∃ W, w6.setCell ⟨q5, 4, none⟩ (.slice a7 (nW + 1) k7) = W := ⟨_, rfl⟩
          rw [hW14] at k1 k2 k3 hz13 hk13
          rw [hW14]
          have hn14 := Lib.hid k1
          have hp14 := Lib.hid k2
          have hw14 := Lib.hid k3
          have hz14 := Lib.hid hz13
          have hk14 := Lib.hid hk13
          have ho14 := Lib.hid ho13
          have p4 : W14.cell? ⟨q5, 4, none⟩ = some (.slice a7 (nW + 1) k7) := k1.blk.cell 4
          have p5 : W14.cell? ⟨q5, 5, none⟩ = some (.slice a6 nR k6) := k1.blk.cell 5
          have pt : W14.cell? ⟨q6, 1, none⟩ = some (.string v.text) := hk13.cell 1
          clear k1 k2 k3 hz13 hk13 ho13 hW14 hs12 m4 t2 u4 v4 hb12H hown6H hg6H ho6H hB7H hN12 hat5H hown5H
          rcases Nat.eq_zero_or_pos nW with hw0 | hw0
          · subst hw0
            obtain rfl : ws = [] := List.length_eq_zero_iff.1 hnWH.out
            rcases Nat.eq_zero_or_pos nR with hr0 | hr0
            · subst hr0
              obtain rfl : rs = [] := List.length_eq_zero_iff.1 hnRH.out
              have hio := isOp_f hp14.out ⟨#[40]⟩
              rw [show (⟨#[40]⟩ : ByteArray).toList = [40] by kernel_rfl] at hio
              obtain ⟨o, ho⟩ : ∃ o, hasO s [40] s6 = o := ⟨_, rfl⟩
              rw [ho] at hio hanH
              have hioH := Lib.hid hio
              have hnm := Lib.hid (fun W => Go.Proofs.YtnhbcmhinhncfaaGreatDoor.W.name_any v.text W (by have := htx.out; unfold maxLen; omega))
              obtain ⟨nm_, hnm_⟩ : ∃ x, Go.Proofs.YtnhbcmhinhncfaaGreatDoor.W.isName v.text = x := ⟨_, rfl⟩
              rw [hnm_] at hnm hanH
              clear hio ho hnm_
              cases o
              · have hanH2 := Lib.hid (show (nA, sA) = simP s B d f [v.text] [] (fill s s6) from hanH.out)
                clear hanH
                go_wp2_with (go_at_call 61; refine hioH.out.mono ?_; rintro e w15 ⟨rfl, hA, hF⟩; have hA15 := Lib.hid hA; have hF15 := Lib.hid hF; clear hA hF)
                go_roundg (rem s (fill s s6))
                case measure => rw [hgH.out]; exact (Nat.lt_of_le_of_lt (lo_fill hok6.out).le hless.out)
                case rel =>
                  refine ⟨(fill s s6), [v.text], [], f, rfl, Lib.hid ⟨hA15.out.fill, hw14.out.trans hF15.out, hF15.out.blk hz14.out hqb2, ⟨a7, k7, a6, k6, by rw [show [v.text].length = 0 + 1 from rfl, show ([] : List Rd).length = 0 from rfl]; exact hn14.out.keep hF15.out hlt hqb5, by rw [show [v.text].length = 0 + 1 from rfl]; exact ho14.out, by rw [show ([] : List Rd).length = 0 from rfl]; exact hoR.out⟩, hanH2.out, by have := (Nat.lt_of_le_of_lt (lo_fill hok6.out).le hless.out); have := hlfH.out; omega, by have := (Nat.lt_of_le_of_lt (lo_fill hok6.out).le hless.out); have := hlnH.out; rw [show [v.text].length = 0 + 1 from rfl, show ([] : List Rd).length = 0 from rfl]; omega, fun hd => by have := hless.out; have := hjjH.out hd; omega⟩⟩
              · cases nm_
                · have hanH2 := Lib.hid (show (nA, sA) = simP s B d f [v.text] [] (fill s s6) from hanH.out)
                  clear hanH
                  go_wp2_with (first
                    | (go_at_call 61; refine hioH.out.mono ?_; rintro e w15 ⟨rfl, hA, hF⟩; have hA15 := Lib.hid hA; have hF15 := Lib.hid hF; have pt2 : w15.cell? ⟨q6, 1, none⟩ = some (.string v.text) := (hF.blk hk14.out hq6b).cell 1; clear hA hF)
                    | (go_at_call 108; refine (hnm.out _).mono ?_; rintro e w16 ⟨rfl, rfl⟩))
                  go_roundg (rem s (fill s s6))
                  case measure => rw [hgH.out]; exact (Nat.lt_of_le_of_lt (lo_fill hok6.out).le hless.out)
                  case rel =>
                    refine ⟨(fill s s6), [v.text], [], f, rfl, Lib.hid ⟨hA15.out.fill, hw14.out.trans hF15.out, hF15.out.blk hz14.out hqb2, ⟨a7, k7, a6, k6, by rw [show [v.text].length = 0 + 1 from rfl, show ([] : List Rd).length = 0 from rfl]; exact hn14.out.keep hF15.out hlt hqb5, by rw [show [v.text].length = 0 + 1 from rfl]; exact ho14.out, by rw [show ([] : List Rd).length = 0 from rfl]; exact hoR.out⟩, hanH2.out, by have := (Nat.lt_of_le_of_lt (lo_fill hok6.out).le hless.out); have := hlfH.out; omega, by have := (Nat.lt_of_le_of_lt (lo_fill hok6.out).le hless.out); have := hlnH.out; rw [show [v.text].length = 0 + 1 from rfl, show ([] : List Rd).length = 0 from rfl]; omega, fun hd => by have := hless.out; have := hjjH.out hd; omega⟩⟩
                · have hanH2 := Lib.hid (show (nA, sA) = funP s B v.text d s6 from hanH.out)
                  clear hanH
                  have hfun := Lib.hid (fun W (hp : PF b s W s6) => function_f (B := B) (d := d) v.text hd0 hd24 hBH.out hCH.out hp)
                  rw [← hanH2.out] at hfun
                  go_upto_region 12 with (first
                    | (go_at_call 61; refine hioH.out.mono ?_; rintro e w15 ⟨rfl, hA, hF⟩; have hA15 := Lib.hid hA; have hF15 := Lib.hid hF; have pt2 : w15.cell? ⟨q6, 1, none⟩ = some (.string v.text) := (hF.blk hk14.out hq6b).cell 1; clear hA hF)
                    | (go_at_call 108; refine (hnm.out _).mono ?_; rintro e w16 ⟨rfl, rfl⟩))
                  have hfun15 := Lib.hid (hfun.out _ hA15.out)
                  have hz15 := Lib.hid (hF15.out.blk hz14.out hqb2)
                  have hw15 := Lib.hid (hw14.out.trans hF15.out)
                  clear hfun hnm hioH p4 p5 pt
                  go_wp2_with (go_at_call 109; refine hfun15.out.mono ?_; rintro e w17 ⟨k, x, y, nm, aw, nw, cw, ar, nr, cr, ak, nk, ck, T, rfl, hN, hT, hA, hF⟩; have hN17 := Lib.hid hN; have hT17 := Lib.hid hT; have hA17 := Lib.hid hA; have hF17 := Lib.hid hF; have hZ17 := hF.blk hz15.out hqb2; have z0 := hZ17.cell 0; have z1 := hZ17.cell 1; have z2 := hZ17.cell 2; have z3 := hZ17.cell 3; have z4 := hZ17.cell 4; have z5 := hZ17.cell 5; have z6 := hZ17.cell 6; have g0 := hZ17.frozen 0; have g1 := hZ17.frozen 1; have g2 := hZ17.frozen 2; have g3 := hZ17.frozen 3; have g4 := hZ17.frozen 4; have g5 := hZ17.frozen 5; have g6 := hZ17.frozen 6; clear hN hT hA hF)
                  refine bodyPost_ret (results_cell_row rfl _ _ q4 30 #[.int .i64 k, .bool x, .bool y, .string nm, .slice aw nw cw, .slice ar nr cr, .slice ak nk ck] (0, 0) _ rfl (put7_blk hZ17 _ _ _ _ _ _ _) Tryz.underlying30 rfl (by kernel_rfl)) rfl ?_
                  have hwz := hw15.out.size
                  exact (show Hd b w nA k x y nm aw nw cw ar nr cr ak nk ck T w17 from ⟨hN17.out, fun g hg => ⟨Nat.le_trans hwz (hT17.out g hg).1, (hT17.out g hg).2⟩⟩).an hZ17 (fun e => by have := (hT17.out _ e).1; have := hz15.out.lt; omega) (Nat.le_of_eq hq4H.out) hqb2 hq16 hA17.out (hw15.out.trans hF17.out)
            · have hr1 : ((nR : Int) == 0) = false := beq_eq_false_iff_ne.2 (by omega)
              have hr2 : rs.isEmpty = false := by
                cases rs with
                | nil => have h1 := hnRH.out; simp at h1; omega
                | cons x l => rfl
              have hanH2 := Lib.hid (show (nA, sA) = simP s B d f [v.text] rs s6 by have := hanH.out; rw [hr2] at this; simpa using this)
              clear hanH hr2
              go_wp2_with fail
              go_roundg (rem s s6)
              case measure => rw [hgH.out]; exact hless.out
              case rel =>
                refine ⟨s6, [v.text], rs, f, rfl, Lib.hid ⟨hp14.out, hw14.out, hz14.out, ⟨a7, k7, a6, k6, by rw [show [v.text].length = 0 + 1 from rfl, hnRH.out]; exact hn14.out, by rw [show [v.text].length = 0 + 1 from rfl]; exact ho14.out, by rw [hnRH.out]; exact hoR.out⟩, hanH2.out, by have := hless.out; have := hlfH.out; omega, by have := hless.out; have := hlnH.out; rw [show [v.text].length = 0 + 1 from rfl, hnRH.out]; omega, fun hd => by have := hless.out; have := hjjH.out hd; omega⟩⟩
          · obtain ⟨n1, hn1⟩ : ∃ n, nW + 1 = n := ⟨_, rfl⟩
            have h11 : ((n1 : Int) == 1) = false := beq_eq_false_iff_ne.2 (by omega)
            have hr2 : ws.isEmpty = false := by
              cases ws with
              | nil => have h1 := hnWH.out; simp at h1; omega
              | cons x l => rfl
            have hanH2 := Lib.hid (show (nA, sA) = simP s B d f (ws ++ [v.text]) rs s6 by have := hanH.out; rw [hr2] at this; simpa using this)
            rw [hn1] at p4 hn14 ho14
            rw [hn1]
            have hn1H := Lib.hid hn1
            clear hanH hr2 hn1
            go_wp2_with fail
            go_roundg (rem s s6)
            case measure => rw [hgH.out]; exact hless.out
            case rel =>
              refine ⟨s6, (ws ++ [v.text]), rs, f, rfl, Lib.hid ⟨hp14.out, hw14.out, hz14.out, ⟨a7, k7, a6, k6, by rw [show (ws ++ [v.text]).length = n1 by rw [List.length_append, hnWH.out]; exact hn1H.out, hnRH.out]; exact hn14.out, by rw [show (ws ++ [v.text]).length = n1 by rw [List.length_append, hnWH.out]; exact hn1H.out]; exact ho14.out, by rw [hnRH.out]; exact hoR.out⟩, hanH2.out, by have := hless.out; have := hlfH.out; omega, by have := hless.out; have := hlnH.out; rw [show (ws ++ [v.text]).length = n1 by rw [List.length_append, hnWH.out]; exact hn1H.out, hnRH.out]; have := hn1H.out; omega, fun hd => by have := hless.out; have := hjjH.out hd; omega⟩⟩
    · rw [if_pos rfl] at han
      have hanH := Lib.hid han
      clear han
      go_upto_region 7 with (go_at_call 106; refine hrd3.out.mono ?_; rintro e w10 ⟨rfl, hA10, hF10⟩; have hA10H := Lib.hid hA10; have hw10 := Lib.hid (hw3.out.trans hF10); have hz10 := Lib.hid (hF10.blk hz3.out hqb2); have hn10 := Lib.hid (hn3.out.keep hF10 hlt hqb5); clear hA10 hF10)
      have hrd10 := Lib.hid (redirection_f (hA10H.out.below (below_drew (Below.refl _ _) 1)))
      have hltr := lt_redP hok5.out
      obtain ⟨RR, hRR⟩ : ∃ R, redP s st5 = R := ⟨_, rfl⟩
      rw [hRR] at hrd10 hanH hltr
      obtain ⟨rd, s6⟩ := RR
      dsimp only at hrd10 hanH hltr
      have hless := Lib.hid (show rem s s6 < rem s st5 by
        have h1 := hpos.out (hrk.out (by trivial))
        rcases hltr.lt with h2 | h2
        · exact h2
        · have h3 : rem s s6 = 0 := h2
          omega)
      have hok6 := Lib.hid hltr.ok
      have y5 : w10.drew.cell? ⟨q5, 5, none⟩ = some (.slice a6 nR k6) := hn10.out.blk.cell 5
      clear hRR hltr hw3 hz3 hn3 hk3 hrd3 hA9H
      go_region_law (first
        | (refine step_app rfl (.tmp 27) (.tmp 30) 28 rfl w.heap.size 50 i1 _ 5 64 Tryz.underlying28 hi1H.out hy0 hy1 hy2 rfl (by decide) (.slice a6 nR k6) nR (flat K5 nR) (by rfl) hown5H.out (some ⟨w11.heap.size, 0, none⟩) 1 1 [.int .i64 rd.fd, .string rd.op, .string rd.word, .string rd.doc, .bool rd.raw] (by rfl) (by rfl) (src_blk (Blk.new w11 _ _)) (by intro u hu; simp at hu; rcases hu with rfl | rfl | rfl | rfl | rfl <;> rfl) (by have := hlnH.out; omega) (by have := hlnH.out; omega) (by rw [World.size_alloc]; have := hf11.out.size; omega) ?_; intro a7 k7 w6 hown6 hg6 ho6; have hB7 : Blk w6 q5 30 #[.int .i64 1, .bool false, .bool false, .string ⟨#[]⟩, .slice a5 nW k5, .slice a6 nR k6, .slice none 0 0] := (hg6.block q5 hN12.out.blk.lt (fun e => hN12.out.qr e.symm)).trans hN12.out.blk; have hB7H := Lib.hid hB7; have u5 : w6.cell? ⟨q5, 5, none⟩ = some (.slice a6 nR k6) := hB7.cell 5; have v5 := hB7.frozen 5; have hown6H := Lib.hid hown6; have hg6H := Lib.hid hg6; have ho6H := Lib.hid ho6; clear hB7 hown6 hg6 ho6)
        | (go_simp; go_at_call 107; refine hrd10.out.mono ?_; rintro e w11 ⟨rfl, hA11, hF11⟩; have hA11H := Lib.hid hA11; have hF11H := Lib.hid (((Fb.refl b w10).drewN 1).trans hF11); have hf11 := Lib.hid (hw10.out.trans hF11H.out); have hNb := hn10.out.keep hF11H.out hlt hqb5; have x5 : w11.cell? ⟨q5, 5, none⟩ = some (.slice a6 nR k6) := hNb.blk.cell 5; have hb12 : Below w11.heap.size w11 (w11.alloc (.cells #[.int .i64 rd.fd, .string rd.op, .string rd.word, .string rd.doc, .bool rd.raw] 50)) := (Below.refl _ _).alloc (Nat.le_refl _) _; have hN12 := Lib.hid (hNb.keep (Fb.of_below (b := b) hb12) hlt hqb5); have x5a : (w11.alloc (.cells #[.int .i64 rd.fd, .string rd.op, .string rd.word, .string rd.doc, .bool rd.raw] 50)).cell? ⟨q5, 5, none⟩ = some (.slice a6 nR k6) := hN12.out.blk.cell 5; have l6 : q5 < w11.heap.size := hNb.blk.lt; have hb12H := Lib.hid hb12; obtain ⟨K5, hown5, hat5⟩ := hN12.out.rr.row; rw [hnRH.out] at hown5; have hown5H := Lib.hid hown5; have hat5H := Lib.hid hat5; clear hA11 hF11 hNb hb12 hown5 hat5))
      all_goals
        go_wp2_with fail
        go_roundg (rem s s6)
        case measure => rw [hgH.out]; exact hless.out
        case rel =>
          have hq4l := hz10.out.lt
          obtain ⟨k1, k2, k3⟩ := app_reds (ys := [rd]) (L := fun _ => [.int .i64 rd.fd, .string rd.op, .string rd.word, .string rd.doc, .bool rd.raw]) (K := K5) hN12.out (hA11H.out.below hb12H.out) (hf11.out.trans (Fb.of_below hb12H.out)) hlt hqb5 hq516 hqw5 (by rw [hnRH.out]; exact hown6H.out) hat5H.out (by rw [hnRH.out]; rfl) (fun j u hj => by
            cases j with
            | zero =>
              obtain rfl : rd = u := by simpa using hj
              rfl
            | succ j => simp at hj) hg6H.out ho6H.out (fun g e => (hN12.out.rr.own_lt e).1)
          refine ⟨s6, ws, rs ++ [rd], f, rfl, Lib.hid ⟨k2, k3, ?_, ⟨a5, k5, a7, k7, by rw [List.length_append, hnRH.out, hnWH.out]; exact k1, by rw [hnWH.out]; exact hoW.out, fun e => ?_⟩, hanH.out, by have := hless.out; have := hlfH.out; omega, by have := hless.out; have := hlnH.out; rw [List.length_append, hnRH.out, hnWH.out]; show nW + (nR + 1) + _ ≤ _; omega, fun hd => by have := hless.out; have := hjjH.out hd; omega⟩⟩
          · exact (Below.heap_setCell _ _ _ _ hq45).trans ((hg6H.out.block q4 (by have := (hF11H.out.trans (Fb.of_below (b := b) hb12H.out)).size; omega) (fun e => hoR.out e.symm)).trans ((hF11H.out.trans (Fb.of_below hb12H.out)).blk hz10.out hqb2))
          · rw [List.length_append, hnRH.out] at e
            rcases ho6H.out with h6 | h6
            · exact hoR.out (h6.symm.trans e)
            · have h7 := Option.some.inj (h6.symm.trans e)
              have h8 := (hF11H.out.trans (Fb.of_below (b := b) hb12H.out)).size
              omega
end
end Go.Proofs.YtnhbcmhinhncfaaGreatDoor
/- A command; bodies at every depth. Conditions: the parser lies as stated. -/
namespace Go.Proofs.YtnhbcmhinhncfaaGreatDoor
open Go.RowKit Go.Shelf Go.PlainAid
set_option linter.unusedVariables false
set_option linter.unusedSimpArgs false
attribute [local go_sem] Oper.semAt_some
section
variable {s : ByteArray} {B : Int → PS → Nd × PS} {d : Int}
set_option maxRecDepth 100000 in
set_option maxHeartbeats 8000000 in
theorem command_f (hd0 : 0 ≤ d) (hd1 : d ≤ 25) (hB : ∀ (d : Int) (st : PS), PW s st → Lo s st (B d st).2) (hC1 : d ≤ 24 → BodyC s B (d + 1)) (hC2 : d + 1 ≤ 24 → BodyC s B (d + 1 + 1)) : CmdC s B d := by
  intro b w st hj h
  obtain ⟨q4, hq4⟩ : ∃ x, w.heap.size = x := ⟨_, rfl⟩
  have hlt := h.lt
  have h16 := h.b16
  have hqb2 : q4 ≠ b := by omega
  have hq16 : 8 ≤ q4 := by omega
  obtain ⟨W, hW⟩ : ∃ W, w.alloc (.cells N7 30) = W := ⟨_, rfl⟩
  have hb1 : Below w.heap.size w W := by rw [← hW]; exact (Below.refl _ _).alloc (Nat.le_refl _) _
  have hZ := Lib.hid (show Blk W q4 30 N7 by rw [← hW, ← hq4]; exact Blk.new _ _ _)
  have hF1 := Lib.hid (Fb.of_below (b := b) hb1)
  have hA1 := Lib.hid (h.below hb1)
  have hpk := Lib.hid (peek_f hA1.out)
  have hlf := lo_fill h.ok
  have hjf : 24 < d → rem s (fill s st) = 0 := fun hd => by have := hj hd; have := hlf.le; omega
  have hio := Lib.hid (fun W (hp : PF b s W st) => isOp_f hp ⟨#[40]⟩)
  rw [show (⟨#[40]⟩ : ByteArray).toList = [40] by kernel_rfl] at hio
  obtain ⟨t, ht⟩ : ∃ t, peekP s st = t := ⟨_, rfl⟩
  obtain ⟨o, ho⟩ : ∃ o, hasO s [40] st = o := ⟨_, rfl⟩
  obtain ⟨r, hr_⟩ : ∃ r, rsvW t.text = r := ⟨_, rfl⟩
  have hcm : cmdP s B d st = if o || (t.kind == 1 && r) then compP s B d (fill s st) else simP s B d (rem s (fill s st) + 1) [] [] (fill s st) := by rw [← ho, ← hr_, ← ht]; rfl
  rw [ht] at hpk
  rw [ho] at hio
  have hrsv := Lib.hid (fun W => rsvW_any t.text W)
  rw [hr_] at hrsv
  have hco := Lib.hid (fun W (hp : PF b s W (fill s st)) => compound_f (B := B) (d := d) hd0 hd1 hB hC1 hjf hp)
  have hsi := Lib.hid (fun W (hp : PF b s W (fill s st)) => simple_f (B := B) (d := d) hd0 hB hC2 hjf hp)
  obtain ⟨C, hCC⟩ : ∃ C, cmdP s B d st = C := ⟨_, rfl⟩
  rw [hCC] at hcm ⊢
  obtain ⟨nC, sC⟩ := C
  have hcmH := Lib.hid hcm
  have hff := Lib.hid (fun W (hp : PF b s W st) => hp.fill)
  obtain ⟨sF, hsF⟩ : ∃ x, fill s st = x := ⟨_, rfl⟩
  rw [hsF] at hcmH hff hco hsi
  have hWH := Lib.hid hW
  have hq4H := Lib.hid hq4
  clear hW hb1 h hq4 hCC hsF hcm hlf hjf hB hC1 hC2 hj ht ho hr_ hA1
  go_enter Tryz.func79, Tryz.ntmps79
  go_upto_region 1 with fail
  rw [hWH.out, hq4H.out]
  go_upto_region 2 with (go_at_call 20; refine hpk.out.mono ?_; rintro e w2 ⟨rfl, hA2, hF2⟩; have hA2H := Lib.hid hA2; have hF2H := Lib.hid hF2; clear hA2 hF2)
  obtain ⟨q5, hq5⟩ : ∃ q, w2.heap.size = q := ⟨_, rfl⟩
  obtain ⟨W3, hW3⟩ : ∃ W, w2.alloc (.cells (tkC t) 58) = W := ⟨_, rfl⟩
  have hb3 : Below w2.heap.size w2 W3 := by rw [← hW3]; exact (Below.refl _ _).alloc (Nat.le_refl _) _
  have hK3 := Lib.hid (show Blk W3 q5 58 (tkC t) by rw [← hW3, ← hq5]; exact Blk.new _ _ _)
  have hF3 := hF2H.out.trans (Fb.of_below hb3)
  have hio3 := Lib.hid (hio.out _ (hA2H.out.below hb3))
  have hw3 := Lib.hid (hF1.out.trans hF3)
  have hz3 := Lib.hid (hF3.blk hZ.out hqb2)
  have hq5b : q5 ≠ b := by have := (hF1.out.trans hF2H.out).size; omega
  rw [hW3, hq5]
  clear hW3 hb3 hq5 hpk hF3 hio hZ hF1 hA2H hF2H
  go_cut [19] (fun s19 wx => s19 = .bool (o || (t.kind == 1 && r)) ∧ Hid (PF b s wx st ∧ Fb b W3 wx))
  case first =>
    have t0 : W3.cell? ⟨q5, 0, none⟩ = some (.int .i64 t.kind) := hK3.out.cell 0
    have t1 : W3.cell? ⟨q5, 1, none⟩ = some (.string t.text) := hK3.out.cell 1
    cases o
    · cases hk1 : (t.kind == 1)
      · go_wp2_with (go_at_call 61; refine hio3.out.mono ?_; rintro e w4 ⟨rfl, hA4, hF4⟩; have hA4H := Lib.hid hA4; have hF4H := Lib.hid hF4; have u0 : w4.cell? ⟨q5, 0, none⟩ = some (.int .i64 t.kind) := (hF4.blk hK3.out hq5b).cell 0; clear hA4 hF4)
        go_meet
        case rel => exact ⟨by rw [hk1]; rfl, Lib.hid ⟨hA4H.out, hF4H.out⟩⟩
      · go_wp2_with (first
          | (go_at_call 61; refine hio3.out.mono ?_; rintro e w4 ⟨rfl, hA4, hF4⟩; have hA4H := Lib.hid hA4; have hF4H := Lib.hid hF4; have u0 : w4.cell? ⟨q5, 0, none⟩ = some (.int .i64 t.kind) := (hF4.blk hK3.out hq5b).cell 0; have u1 : w4.cell? ⟨q5, 1, none⟩ = some (.string t.text) := (hF4.blk hK3.out hq5b).cell 1; clear hA4 hF4)
          | (go_at_call 89; refine (hrsv.out _).mono ?_; rintro e w5 ⟨rfl, rfl⟩))
        go_meet
        case rel => exact ⟨by rw [hk1]; rfl, Lib.hid ⟨hA4H.out, hF4H.out⟩⟩
    · go_wp2_with (go_at_call 61; refine hio3.out.mono ?_; rintro e w4 ⟨rfl, hA4, hF4⟩; have hA4H := Lib.hid hA4; have hF4H := Lib.hid hF4; clear hA4 hF4)
      go_meet
      case rel => exact ⟨by simp, Lib.hid ⟨hA4H.out, hF4H.out⟩⟩
  case rest =>
    obtain ⟨rfl, hcut⟩ := hcut
    have hA5 := Lib.hid (hff.out _ hcut.out.1)
    have hw5 := Lib.hid (hw3.out.trans hcut.out.2)
    have hz5 := Lib.hid (hcut.out.2.blk hz3.out hqb2)
    clear hcut hio3 hrsv hK3 hw3 hz3 hff
    obtain ⟨cc, hcc⟩ : ∃ c, (o || (t.kind == 1 && r)) = c := ⟨_, rfl⟩
    rw [hcc] at hcmH ⊢
    clear hcc
    cases cc
    · have hcall := hsi.out _ hA5.out
      have hcm2 := hcmH.out
      rw [if_neg (by decide)] at hcm2
      rw [← hcm2] at hcall
      have hcallH := Lib.hid hcall
      clear hcm2 hcmH hsi hco hcall
      go_wp2_with (go_at_call 91; refine (hcallH.out).mono ?_; rintro e w17 ⟨k, x, y, nm, aw, nw, cw, ar, nr, cr, ak, nk, ck, T, rfl, hN, hT, hA, hF⟩; have hN17 := Lib.hid hN; have hT17 := Lib.hid hT; have hA17 := Lib.hid hA; have hF17 := Lib.hid hF; have hZ17 := hF.blk hz5.out hqb2; have z0 := hZ17.cell 0; have z1 := hZ17.cell 1; have z2 := hZ17.cell 2; have z3 := hZ17.cell 3; have z4 := hZ17.cell 4; have z5 := hZ17.cell 5; have z6 := hZ17.cell 6; have g0 := hZ17.frozen 0; have g1 := hZ17.frozen 1; have g2 := hZ17.frozen 2; have g3 := hZ17.frozen 3; have g4 := hZ17.frozen 4; have g5 := hZ17.frozen 5; have g6 := hZ17.frozen 6; clear hN hT hA hF)
      refine bodyPost_ret (results_cell_row rfl _ _ q4 30 #[.int .i64 k, .bool x, .bool y, .string nm, .slice aw nw cw, .slice ar nr cr, .slice ak nk ck] (0, 0) _ rfl (put7_blk hZ17 _ _ _ _ _ _ _) Tryz.underlying30 rfl (by kernel_rfl)) rfl ?_
      have hwz := hw5.out.size
      exact (show Hd b w nC k x y nm aw nw cw ar nr cr ak nk ck T w17 from ⟨hN17.out, fun g hg => ⟨Nat.le_trans hwz (hT17.out g hg).1, (hT17.out g hg).2⟩⟩).an hZ17 (fun e => by have := (hT17.out _ e).1; have := hz5.out.lt; omega) (Nat.le_of_eq hq4H.out) hqb2 hq16 hA17.out (hw5.out.trans hF17.out)
    · have hcall := hco.out _ hA5.out
      have hcm2 := hcmH.out
      rw [if_pos rfl] at hcm2
      rw [← hcm2] at hcall
      have hcallH := Lib.hid hcall
      clear hcm2 hcmH hsi hco hcall
      go_wp2_with (go_at_call 90; refine (hcallH.out).mono ?_; rintro e w17 ⟨k, x, y, nm, aw, nw, cw, ar, nr, cr, ak, nk, ck, T, rfl, hN, hT, hA, hF⟩; have hN17 := Lib.hid hN; have hT17 := Lib.hid hT; have hA17 := Lib.hid hA; have hF17 := Lib.hid hF; have hZ17 := hF.blk hz5.out hqb2; have z0 := hZ17.cell 0; have z1 := hZ17.cell 1; have z2 := hZ17.cell 2; have z3 := hZ17.cell 3; have z4 := hZ17.cell 4; have z5 := hZ17.cell 5; have z6 := hZ17.cell 6; have g0 := hZ17.frozen 0; have g1 := hZ17.frozen 1; have g2 := hZ17.frozen 2; have g3 := hZ17.frozen 3; have g4 := hZ17.frozen 4; have g5 := hZ17.frozen 5; have g6 := hZ17.frozen 6; clear hN hT hA hF)
      refine bodyPost_ret (results_cell_row rfl _ _ q4 30 #[.int .i64 k, .bool x, .bool y, .string nm, .slice aw nw cw, .slice ar nr cr, .slice ak nk ck] (0, 0) _ rfl (put7_blk hZ17 _ _ _ _ _ _ _) Tryz.underlying30 rfl (by kernel_rfl)) rfl ?_
      have hwz := hw5.out.size
      exact (show Hd b w nC k x y nm aw nw cw ar nr cr ak nk ck T w17 from ⟨hN17.out, fun g hg => ⟨Nat.le_trans hwz (hT17.out g hg).1, (hT17.out g hg).2⟩⟩).an hZ17 (fun e => by have := (hT17.out _ e).1; have := hz5.out.lt; omega) (Nat.le_of_eq hq4H.out) hqb2 hq16 hA17.out (hw5.out.trans hF17.out)
end
/-- What a body leaves, at whatever level. -/
theorem lo_body (s : ByteArray) : ∀ (k : Nat) (d : Int) (st : PS), PW s st → Lo s st (body s k d st).2
  | 0, _, _, h => Lo.refl h
  | k + 1, d, st, h => lo_bod (fun d st hp => lo_body s k d st hp) d h
/-- Bodies, at every depth that is called. -/
theorem body_all (s : ByteArray) : ∀ (k : Nat) (d : Int), 0 ≤ d → d ≤ 25 → 26 - d ≤ k → BodyC s (body s k) d
  | 0, d, h0, h1, h2 => absurd h2 (by omega)
  | k + 1, d, h0, h1, h2 => fun b W st h => body_f (lo_body s k) (command_f h0 h1 (lo_body s k) (fun hd => body_all s k (d + 1) (by omega) (by omega) (by push_cast at h2; omega)) (fun hd => body_all s k (d + 1 + 1) (by omega) (by omega) (by push_cast at h2; omega))) h
theorem list_all {b : Nat} {s : ByteArray} {w : World} {st : PS} (h : PF b s w st) : Calls Tryz.prog 21 #[ptr b] w (NdAn b s w (listP s st).1 (listP s st).2) :=
  list_f (lo_body s 26) (command_f (by decide) (by decide) (lo_body s 26) (fun _ => body_all s 26 (0 + 1) (by decide) (by decide) (by decide)) (fun _ => body_all s 26 (0 + 1 + 1) (by decide) (by decide) (by decide))) h
end Go.Proofs.YtnhbcmhinhncfaaGreatDoor
