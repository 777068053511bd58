/- An if. Conditions: the parser lies as stated; a body's contract is handed in. -/
import Derived.Test.YtnhbcmhinhncfaaGreatDoorQbC
import Derived.Deep.RegionLaw
namespace Go.Proofs.YtnhbcmhinhncfaaGreatDoor
open Go.RowKit Go.Shelf Go.PlainAid
set_option linter.unusedVariables false
set_option linter.unusedSimpArgs false
attribute [local go_sem] Oper.semAt_some
section
variable {b : Nat} {s : ByteArray} {w w5 : World} {st : PS} {B : Int → PS → Nd × PS} {d : Int}
abbrev prs (l : List (Nd × Nd)) : List Nd := l.flatMap (fun b => [b.1, b.2])
theorem prs_len : ∀ l : List (Nd × Nd), (prs l).length = 2 * l.length
  | [] => rfl
  | x :: l => by
    show ([x.1, x.2] ++ prs l).length = 2 * (l.length + 1)
    rw [List.length_append, prs_len l, List.length_cons, List.length_cons]
    simp
    omega
/-- What holds at the head of the loop. -/
structure ChI (b q q3 q4 q5 : Nat) (d : Int) (s : ByteArray) (w w5 : World) (st : PS) (T : Nat → Prop) (l : List (Nd × Nd)) (i : Nat) (W : World) : Prop where
  pf : PF b s W st
  fb : Fb b w W
  f5 : w5.heap.size ≤ W.heap.size
  kt : ∀ g, T g → W.heap[g]? = w5.heap[g]?
  z : Blk W q4 30 N7
  bx : Bx b q W
  bi : Bi d q3 W
  nd : ∃ (a : Option Addr) (c : Nat) (T' : Nat → Prop), NdB q5 w.heap.size 9 false false ⟨#[]⟩ [] [] (prs (l.take i)) (.slice none 0 0) (.slice none 0 0) (.slice a (2 * i) c) T' W ∧ (∀ g, T' g → T g) ∧ (∀ g, (Value.slice a (2 * i) c).ownBlock = some g → w5.heap.size ≤ g)
set_option maxRecDepth 100000 in
set_option maxHeartbeats 8000000 in
theorem choice_f (hB : ∀ (d : Int) (st : PS), PW s st → Lo s st (B d st).2) (hC : BodyC s B d) (h : PF b s w st) : Calls Tryz.prog 102 #[ptr b, .int .i64 d] w (NdAn b s w (chP s B d st).1 (chP s B d st).2) := by
  have hmf : ∀ (fn : Fn) (first cap : Array Value) (w : World), (Instr.makeFunc fn first cap).run Tryz.prog w = .ok (.func fn first cap) w := fun _ _ _ _ => rfl
  obtain ⟨i0, hi0, hz0, hz1, hz2⟩ := info_parts infoNd
  have hi0H := Lib.hid hi0
  obtain ⟨q, hq⟩ : ∃ q, w.heap.size = q := ⟨_, rfl⟩
  obtain ⟨q3, hq3⟩ : ∃ x, w.heap.size + 1 = x := ⟨_, rfl⟩
  obtain ⟨q4, hq4⟩ : ∃ x, w.heap.size + 1 + 1 = x := ⟨_, rfl⟩
  obtain ⟨q5, hq5⟩ : ∃ x, w.heap.size + 1 + 1 + 1 = x := ⟨_, rfl⟩
  have hlt := h.lt
  have h16 := h.b16
  have hqb : q ≠ b := by omega
  have hqb1 : q3 ≠ b := by omega
  have hqb2 : q4 ≠ b := by omega
  have hqb5 : q5 ≠ b := by omega
  have hq16 : 8 ≤ q4 := by omega
  have hq516 : 8 ≤ q5 := by omega
  have hq45 : ¬ q4 = q5 := by omega
  have hq05 : ¬ q = q5 := by omega
  have hq35 : ¬ q3 = q5 := by omega
  have hqw5 : w.heap.size ≤ q5 := by omega
  obtain ⟨W, hW⟩ : ∃ W, ((w.alloc (.cells #[ptr b] 53)).alloc (.cells #[.int .i64 d] 3)).alloc (.cells N7 30) = W := ⟨_, rfl⟩
  have e1 : (w.alloc (.cells #[ptr b] 53)).heap.size = q3 := by rw [World.size_alloc, hq3]
  have e2 : ((w.alloc (.cells #[ptr b] 53)).alloc (.cells #[.int .i64 d] 3)).heap.size = q4 := by rw [World.size_alloc, World.size_alloc, hq4]
  have e5 : W.heap.size = q5 := by rw [← hW, World.size_alloc, World.size_alloc, World.size_alloc, hq5]
  obtain ⟨W1, hW1⟩ : ∃ W1, W.alloc (.cells #[.int .i64 9, .bool false, .bool false, .string ⟨#[]⟩, .slice none 0 0, .slice none 0 0, .slice none 0 0] 30) = W1 := ⟨_, rfl⟩
  have hb1 : Below w.heap.size w W1 := by rw [← hW1, ← hW]; exact ((((Below.refl _ _).alloc (Nat.le_refl _) _).alloc (by rw [World.size_alloc]; omega) _).alloc (by rw [World.size_alloc, World.size_alloc]; omega) _).alloc (by rw [World.size_alloc, World.size_alloc, World.size_alloc]; omega) _
  have hX := Lib.hid (show Bx b q W1 by rw [← hW1, ← hW, ← hq]; exact (((Blk.new _ _ _).alloc _).alloc _).alloc _)
  have hI := Lib.hid (show Bi d q3 W1 by rw [← hW1, ← hW, ← e1]; exact ((Blk.new _ _ _).alloc _).alloc _)
  have hZ := Lib.hid (show Blk W1 q4 30 N7 by rw [← hW1, ← hW, ← e2]; exact (Blk.new _ _ _).alloc _)
  have hB5 := Lib.hid (show Blk W1 q5 30 #[.int .i64 9, .bool false, .bool false, .string ⟨#[]⟩, .slice none 0 0, .slice none 0 0, .slice none 0 0] by rw [← hW1, ← e5]; exact Blk.new _ _ _)
  have hA1 := Lib.hid (h.below hb1)
  have hF1 := Lib.hid (Fb.of_below (b := b) hb1)
  have hWH := Lib.hid hW
  have hW1H := Lib.hid hW1
  have hqH := Lib.hid hq
  have hq3H := Lib.hid hq3
  have hq4H := Lib.hid hq4
  have e5H := Lib.hid e5
  have c0 : W1.cell? ⟨q, 0, none⟩ = some (ptr b) := hX.out.cell 0
  have hr := Lib.hid (show chP s B d st = (fun l : List (Nd × Nd) × PS => (fun e : List Nd × PS => (ndK 9 e.1, needP s (hasW s [102, 105] e.2) e.2)) (if hasW s [101, 108, 115, 101] l.2 then (prs l.1 ++ [(B d (nextP s l.2)).1], (B d (nextP s l.2)).2) else (prs l.1, fill s l.2))) (ser s (brP s B d) (fun _ st => (hasW s [101, 108, 105, 102] st, tookP s 1 [101, 108, 105, 102] st)) st) by unfold chP; rfl)
  have hlen := Lib.hid (ser_len (R := brP s B d) (M := fun _ st => (hasW s [101, 108, 105, 102] st, tookP s 1 [101, 108, 105, 102] st)) h.ok)
  have hcall := Lib.hid (serP_any (b := b) (w := W1) (st := st) (s := s) (R := brP s B d) (M := fun st => (hasW s [101, 108, 105, 102] st, tookP s 1 [101, 108, 105, 102] st)) 117 118 #[] #[ptr q, ptr q3] #[] #[ptr q] enters_ch1 enters_ch2 (fun W => Bx b q W ∧ Bi d q3 W) (fun W W' hc hf => ⟨hf.blk hc.1 hqb, hf.blk hc.2 hqb1⟩) (fun _ => True) (fun _ _ _ => trivial)
    (fun W st hc _ hp => choice1_f hC hc.1 hqb hc.2 hqb1 hp) (fun W st k x y nm aw nw cw ar nr cr ak nk ck ki xu yv mm bw ow dw br er dr bk ek dk hc hp => choice2_f k x y nm aw nw cw ar nr cr ak nk ck ki xu yv mm bw ow dw br er dr bk ek dk hc.1 hqb hp) (fun st hp => ((lo_br hB d hp).trans (lo_took (lo_br hB d hp).ok 1 [101, 108, 105, 102])).ok) (fun st hp hm => by
      have h1 := lo_br hB d hp
      have h2 := (less_took h1.ok (by decide) (show isT 1 [101, 108, 105, 102] (peekP s (brP s B d st).2) = true from hm)).2
      have := h1.le
      show rem s (tookP s 1 [101, 108, 105, 102] (brP s B d st).2) < _
      omega) hA1.out ⟨hX.out, hI.out⟩ trivial)
  obtain ⟨A, hA⟩ : ∃ A, ser s (brP s B d) (fun _ st => (hasW s [101, 108, 105, 102] st, tookP s 1 [101, 108, 105, 102] st)) st = A := ⟨_, rfl⟩
  rw [hA] at hcall hr hlen
  obtain ⟨l, st3⟩ := A
  dsimp only at hr hcall hlen
  have hCH := Lib.hid hC
  obtain ⟨o, ho⟩ : ∃ o, hasW s [101, 108, 115, 101] st3 = o := ⟨_, rfl⟩
  rw [ho] at hr
  have htk := Lib.hid (fun W (hp : PF b s W st3) => tookWord_f hp ⟨#[101, 108, 115, 101]⟩)
  rw [show (⟨#[101, 108, 115, 101]⟩ : ByteArray).toList = [101, 108, 115, 101] by kernel_rfl, ho] at htk
  obtain ⟨E, hE⟩ : ∃ E, (if o = true then (prs l ++ [(B d (nextP s st3)).1], (B d (nextP s st3)).2) else (prs l, fill s st3)) = E := ⟨_, rfl⟩
  rw [hE] at hr
  obtain ⟨ks, st4⟩ := E
  dsimp only at hr
  have hnd := Lib.hid (fun W (hp : PF b s W st4) => needWord_f hp ⟨#[102, 105]⟩)
  rw [show (⟨#[102, 105]⟩ : ByteArray).toList = [102, 105] by kernel_rfl] at hnd
  obtain ⟨st6, hst6⟩ : ∃ x, needP s (hasW s [102, 105] st4) st4 = x := ⟨_, rfl⟩
  rw [hst6] at hr hnd
  rw [hr.out]
  have hEH := Lib.hid hE
  have hst6H := Lib.hid hst6
  clear hr ho hE hst6
  clear hW hW1 hb1 h hq hq3 hq4 hq5 hA hC hB e1 e2 e5 hi0
  obtain ⟨n, hn⟩ : ∃ n, l.length = n := ⟨_, rfl⟩
  rw [hn] at hlen
  have hnH := Lib.hid hn
  clear hn
  go_enter Tryz.func102, Tryz.ntmps102
  go_upto_region 1 with fail
  rw [hWH.out, hq4H.out, hq3H.out, hqH.out]
  go_upto_region 2 with fail
  rw [hW1H.out, e5H.out]
  go_upto_region 4 with (go_at_call 116; refine hcall.out.mono ?_; rintro e w5 ⟨a, c, T, he, hD, hT, hA5, hF5⟩; rw [hnH.out] at he hD; subst he; have hDH := Lib.hid hD; have hTH := Lib.hid hT; have hA5H := Lib.hid hA5; have hF5H := Lib.hid hF5; clear hD hT hA5 hF5)
  have hZ5 := hF5H.out.blk hZ.out hqb2
  have hX5 := hF5H.out.blk hX.out hqb
  have hI5 := hF5H.out.blk hI.out hqb1
  have hN5 := hF5H.out.blk hB5.out hqb5
  have hq5l := hB5.out.lt
  have hTlt := Lib.hid (fun g (hg : T g) => (show w.heap.size ≤ g ∧ g < w5.heap.size ∧ g ≠ q5 ∧ g ≠ q4 from ⟨Nat.le_trans hF1.out.size (hTH.out g hg).1, (hTH.out g hg).2, fun e => by have := (hTH.out g hg).1; omega, fun e => by have := (hTH.out g hg).1; have := hZ.out.lt; omega⟩))
  have hst := Lib.hid (show ChI b q q3 q4 q5 d s w w5 st3 T l 0 w5 from ⟨hA5H.out, hF1.out.trans hF5H.out, Nat.le_refl _, fun _ _ => rfl, hZ5, hX5, hI5, none, 0, _, NdB.new_ _ hN5, fun g h => h.elim, fun g h => by simp [Value.ownBlock] at h⟩)
  have hqs := Lib.hid (show q4 < w5.heap.size ∧ q5 < w5.heap.size ∧ q < w5.heap.size ∧ q3 < w5.heap.size ∧ w.heap.size ≤ w5.heap.size from ⟨hZ5.lt, hN5.lt, hX5.lt, hI5.lt, (hF1.out.trans hF5H.out).size⟩)
  clear hZ5 hX5 hI5 hN5 hq5l c0 hcall hA1
  go_loopg [15] n (fun g v wr => ∃ i : Nat, v = .int .i64 (i : Int) ∧ g + i = n ∧ Hid (ChI b q q3 q4 q5 d s w w5 st3 T l i wr))
  case atStart => exact ⟨0, rfl, rfl, hst⟩
  case round =>
    clear hst
    obtain ⟨i, rfl, hg, hI⟩ := hrel
    by_cases hi : i < n
    rotate_left
    · have hd : decide ((i : Int) < (n : Int)) = false := decide_eq_false (by omega)
      obtain rfl : n = i := by omega
      obtain ⟨a5, k5, T5, hN, hTT, hown⟩ := hI.out.nd
      have htk2 : prs (l.take n) = prs l := by rw [List.take_of_length_le (Nat.le_of_eq hnH.out)]
      rw [htk2] at hN
      have hNH := Lib.hid hN
      have hTTH := Lib.hid hTT
      have hownH := Lib.hid hown
      have c0 : wr.cell? ⟨q, 0, none⟩ = some (ptr b) := hI.out.bx.cell 0
      have htc := Lib.hid (htk.out wr hI.out.pf)
      clear hN htk2 hTT hown htk
      go_upto_if 30 with (go_at_call 100; refine htc.out.mono ?_; rintro e w7 ⟨rfl, hA7, hF7⟩; have hA7H := Lib.hid hA7; have hF7H := Lib.hid hF7; clear hA7 hF7)
      go_cut [] (fun wx => Hid (∃ (a : Option Addr) (n' c' : Nat) (T' : Nat → Prop), PF b s wx st4 ∧ Fb b w wx ∧ Bx b q wx ∧ Blk wx q4 30 N7 ∧ NdB q5 w.heap.size 9 false false ⟨#[]⟩ [] [] ks (.slice none 0 0) (.slice none 0 0) (.slice a n' c') T' wx ∧ ¬ T' q4 ∧ (Value.slice a n' c').ownBlock ≠ some q4))
      case first =>
        have hN7 := Lib.hid (hNH.out.keep hF7H.out hlt hqb5)
        have hX7 := Lib.hid (hF7H.out.blk hI.out.bx hqb)
        have hY7 := Lib.hid (hF7H.out.blk hI.out.bi hqb1)
        have hZ7 := Lib.hid (hF7H.out.blk hI.out.z hqb2)
        have hfw7 := Lib.hid (hI.out.fb.trans hF7H.out)
        have hf57 := Lib.hid (Nat.le_trans hI.out.f5 hF7H.out.size)
        cases o
        · obtain ⟨rfl, rfl⟩ : prs l = ks ∧ fill s st3 = st4 := by simpa using hEH.out
          go_wp2_with fail
          go_meet
          case rel => exact Lib.hid ⟨a5, 2 * n, k5, T5, PF.fill hA7H.out, hfw7.out, hX7.out, hZ7.out, hN7.out, fun e => (hTlt.out _ (hTTH.out _ e)).2.2.2 rfl, fun e => by have := hownH.out _ e; have := hqs.out.1; omega⟩
        · obtain ⟨h1, h2⟩ : prs l ++ [(B d (nextP s st3)).1] = ks ∧ (B d (nextP s st3)).2 = st4 := by simpa using hEH.out
          have hcb := Lib.hid (hCH.out b w7.drew (nextP s st3) (hA7H.out.below (below_drew (Below.refl _ _) 1)))
          obtain ⟨A2, hA2⟩ : ∃ A, B d (nextP s st3) = A := ⟨_, rfl⟩
          rw [hA2] at hcb h1 h2
          obtain ⟨n2, st2⟩ := A2
          dsimp only at hcb h1 h2
          subst h1 h2
          have hN7d := Lib.hid (hN7.out.keep (W' := w7.drew) ((Fb.refl b w7).drewN 1) hlt hqb5)
          have y0 : w7.drew.cell? ⟨q, 0, none⟩ = some (ptr b) := hX7.out.cell 0
          have y1 : w7.drew.cell? ⟨q3, 0, none⟩ = some (.int .i64 d) := hY7.out.cell 0
          have y6 : w7.drew.cell? ⟨q5, 6, none⟩ = some (.slice a5 (2 * n) k5) := hN7.out.blk.cell 6
          have hl2 := Lib.hid (show (prs l).length = 2 * n by rw [prs_len, hnH.out])
          clear hA2 htc hCH
          go_upto_region 9 with fail
          go_region_law (first
            | (refine step_app rfl (.tmp 32) (.tmp 36) 23 rfl w.heap.size 30 i0 _ 7 104 Tryz.underlying23 hi0H.out hz0 hz1 hz2 rfl (by decide) (.slice a5 (2 * n) k5) (2 * n) (flat K5 (2 * n)) (by rfl) hown5H.out (some ⟨w8.heap.size, 0, none⟩) 1 1 [.int .i64 k, .bool x, .bool y, .string nm, .slice aw nw cw, .slice ar nr cr, .slice ak nk ck] (by rfl) (by rfl) (src_blk (Blk.new w8 _ _)) (by intro u hu; simp at hu; rcases hu with rfl | rfl | rfl | rfl | rfl | rfl | rfl <;> rfl) (by have := hlen.out; omega) (by have := hlen.out; omega) (by rw [World.size_alloc]; have := hfw8.out.size; omega) ?_; intro a6 k6 w6 hown6 hg6 ho6; have hB7 : Blk w6 q5 30 #[.int .i64 9, .bool false, .bool false, .string ⟨#[]⟩, .slice none 0 0, .slice none 0 0, .slice a5 (2 * n) k5] := (hg6.block q5 hN9.out.blk.lt (fun e => hN9.out.qk e.symm)).trans hN9.out.blk; have hB7H := Lib.hid hB7; have u6 : w6.cell? ⟨q5, 6, none⟩ = some (.slice a5 (2 * n) k5) := hB7.cell 6; have v6 := hB7.frozen 6; have hown6H := Lib.hid hown6; have hg6H := Lib.hid hg6; have ho6H := Lib.hid ho6; clear hB7 hown6 hg6 ho6)
            | (go_simp; go_at_call 98; refine hcb.out.mono ?_; rintro e w8 ⟨k, x, y, nm, aw, nw, cw, ar, nr, cr, ak, nk, ck, T2, rfl, hN, hT, hA8, hF8⟩; have hN8 := Lib.hid hN; have hT8 := Lib.hid hT; have hA8H := Lib.hid hA8; have hF8H := Lib.hid hF8; have hfw8 := Lib.hid (hfw7.out.trans (((Fb.refl b w7).drewN 1).trans hF8)); have hNb := hN7d.out.keep hF8 hlt hqb5; have x0 : w8.cell? ⟨q, 0, none⟩ = some (ptr b) := (hF8.blk (show Blk w7.drew q _ _ from hX7.out) hqb).cell 0; have x1 : w8.cell? ⟨q3, 0, none⟩ = some (.int .i64 d) := (hF8.blk (show Blk w7.drew q3 _ _ from hY7.out) hqb1).cell 0; have x6 : w8.cell? ⟨q5, 6, none⟩ = some (.slice a5 (2 * n) k5) := hNb.blk.cell 6; have hb9 : Below w8.heap.size w8 (w8.alloc (.cells #[.int .i64 k, .bool x, .bool y, .string nm, .slice aw nw cw, .slice ar nr cr, .slice ak nk ck] 30)) := (Below.refl _ _).alloc (Nat.le_refl _) _; have hN9 := Lib.hid (hNb.keep (Fb.of_below (b := b) hb9) hlt hqb5); have x6a : (w8.alloc (.cells #[.int .i64 k, .bool x, .bool y, .string nm, .slice aw nw cw, .slice ar nr cr, .slice ak nk ck] 30)).cell? ⟨q5, 6, none⟩ = some (.slice a5 (2 * n) k5) := hN9.out.blk.cell 6; have l6 : q5 < w8.heap.size := (by have h1 := hqs.out.2.1; have h2 := Nat.le_trans hf57.out (((Fb.refl b w7).drewN 1).trans hF8H.out).size; omega); have hb9H := Lib.hid hb9; obtain ⟨K5, hown5, hat5⟩ := hN9.out.rk.row; rw [hl2.out] at hown5; have hown5H := Lib.hid hown5; have hat5H := Lib.hid hat5; clear hN hT hA8 hF8 hNb hb9 hown5 hat5))
          all_goals
            go_wp2_with fail
            go_meet
            case rel =>
              have hpf9 := hA8H.out.below hb9H.out
              have hfw9 := hfw8.out.trans (Fb.of_below hb9H.out)
              have hf59 := Nat.le_trans hf57.out ((((Fb.refl b w7).drewN 1).trans hF8H.out).trans (Fb.of_below hb9H.out)).size
              have hnown : ∀ g, (Value.slice a5 (2 * n) k5).ownBlock = some g → w5.heap.size ≤ g ∧ g < w7.heap.size := fun g e => ⟨hownH.out g e, (hN7.out.rk.own_lt e).2⟩
              have hT8g : ∀ g, T2 g → w7.heap.size ≤ g ∧ g < w8.heap.size := fun g hg => hT8.out g hg
              have h78 : w7.heap.size ≤ w8.heap.size := (((Fb.refl b w7).drewN 1).trans hF8H.out).size
              have h57 : w5.heap.size ≤ w7.heap.size := hf57.out
              obtain ⟨k1, k2, k3⟩ := app_kids (ys := [n2]) (Tx := T2) (L := fun _ => [.int .i64 k, .bool x, .bool y, .string nm, .slice aw nw cw, .slice ar nr cr, .slice ak nk ck]) (K := K5) hN9.out hpf9 hfw9 hlt hqb5 hq516 hqw5 (by rw [hl2.out]; exact hown6H.out) hat5H.out (by rw [hl2.out]; rfl) (fun j u hj => by
                cases j with
                | zero =>
                  obtain rfl : n2 = u := by simpa using hj
                  exact hN8.out.keep (fun g hg => hb9H.out.block g (hT8g g hg).2) (fun _ h => h)
                | succ j => simp at hj) (fun g hg => by
                have h3 := hT8g g hg
                have h4 := hqs.out
                exact ⟨by omega, Nat.lt_of_lt_of_le h3.2 hb9H.out.size, by omega, by simp [Value.ownBlock], by simp [Value.ownBlock], fun e => by have := (hnown g e).2; omega⟩) hg6H.out ho6H.out (fun g e => by have := (hnown g e).1; have := hqs.out.2.2.2.2; omega)
              have hmv : ∀ p ty cs, Blk w7 p ty cs → p ≠ b → ¬ p = q5 → p < w5.heap.size → Blk (w6.setCell ⟨q5, 6, none⟩ (.slice a6 (2 * n + 1) k6)) p ty cs := fun p ty cs hp h1 h2 h3 =>
                (Below.heap_setCell _ _ _ _ h2).trans ((hg6H.out.block p (Nat.lt_of_lt_of_le h3 hf59) (fun e => by have := (hnown p e.symm).1; omega)).trans ((((Fb.refl b w7).drewN 1).trans hF8H.out).trans (Fb.of_below hb9H.out) |>.blk hp h1))
              refine Lib.hid ⟨a6, 2 * n + 1, k6, _, k2, k3, hmv _ _ _ hX7.out hqb hq05 hqs.out.2.2.1, hmv _ _ _ hZ7.out hqb2 hq45 hqs.out.1, k1, fun e => ?_, fun e => ?_⟩
              · rcases e with e | e
                · exact (hTlt.out _ (hTTH.out _ e)).2.2.2 rfl
                · have := (hT8g _ e).1; have := hqs.out.1; omega
              · rcases ho6H.out with h6 | h6
                · have := (hnown _ (h6.symm.trans e)).1; have := hqs.out.1; omega
                · have h7 := Option.some.inj (h6.symm.trans e)
                  have := hf59; have := hqs.out.1; omega
      case rest =>
        obtain ⟨a8, n8, k8, T8, hp8, hf8, hx8, hz8, hn8, ht8, ho8⟩ := hcut.out
        have hp8H := Lib.hid hp8
        have hf8H := Lib.hid hf8
        have hz8H := Lib.hid hz8
        have hn8H := Lib.hid hn8
        have ht8H := Lib.hid ht8
        have ho8H := Lib.hid ho8
        have c8 : wc.cell? ⟨q, 0, none⟩ = some (ptr b) := hx8.cell 0
        have hnc := Lib.hid (hnd.out wc hp8)
        clear hcut hp8 hf8 hx8 hz8 hn8 ht8 ho8 hnd
        go_upto_region 11 with (go_at_call 101; refine hnc.out.mono ?_; rintro e w9 ⟨rfl, hA9, hF9⟩; have hA9H := Lib.hid hA9; have hF9H := Lib.hid hF9; clear hA9 hF9)
        have hn9 := Lib.hid (hn8H.out.keep hF9H.out hlt hqb5)
        have hz9 := Lib.hid (hF9H.out.blk hz8H.out hqb2)
        have c0 : w9.cell? ⟨q5, 0, none⟩ = some (.int .i64 9) := hn9.out.blk.cell 0
        have c1 : w9.cell? ⟨q5, 1, none⟩ = some (.bool false) := hn9.out.blk.cell 1
        have c2 : w9.cell? ⟨q5, 2, none⟩ = some (.bool false) := hn9.out.blk.cell 2
        have c3 : w9.cell? ⟨q5, 3, none⟩ = some (.string ⟨#[]⟩) := hn9.out.blk.cell 3
        have c4 : w9.cell? ⟨q5, 4, none⟩ = some (.slice none 0 0) := hn9.out.blk.cell 4
        have c5 : w9.cell? ⟨q5, 5, none⟩ = some (.slice none 0 0) := hn9.out.blk.cell 5
        have c6 : w9.cell? ⟨q5, 6, none⟩ = some (.slice a8 n8 k8) := hn9.out.blk.cell 6
        have z0 : w9.cell? ⟨q4, 0, none⟩ = some (.int .i64 0) := hz9.out.cell 0
        have z1 : w9.cell? ⟨q4, 1, none⟩ = some (.bool false) := hz9.out.cell 1
        have z2 : w9.cell? ⟨q4, 2, none⟩ = some (.bool false) := hz9.out.cell 2
        have z3 : w9.cell? ⟨q4, 3, none⟩ = some (.string ⟨#[]⟩) := hz9.out.cell 3
        have z4 : w9.cell? ⟨q4, 4, none⟩ = some (.slice none 0 0) := hz9.out.cell 4
        have z5 : w9.cell? ⟨q4, 5, none⟩ = some (.slice none 0 0) := hz9.out.cell 5
        have z6 : w9.cell? ⟨q4, 6, none⟩ = some (.slice none 0 0) := hz9.out.cell 6
        have f0 := hz9.out.frozen 0
        have f1 := hz9.out.frozen 1
        have f2 := hz9.out.frozen 2
        have f3 := hz9.out.frozen 3
        have f4 := hz9.out.frozen 4
        have f5 := hz9.out.frozen 5
        have f6 := hz9.out.frozen 6
        go_wp2_with fail
        refine bodyPost_ret (results_cell_row rfl _ _ q4 30 #[.int .i64 9, .bool false, .bool false, .string ⟨#[]⟩, .slice none 0 0, .slice none 0 0, .slice a8 n8 k8] (0, 0) _ rfl (put7_blk hz9.out _ _ _ _ _ _ _) Tryz.underlying30 rfl (by kernel_rfl)) rfl ?_
        have h9 := NdB.hd (b := b) (w := w) hn9.out
        exact h9.1.an hz9.out (h9.2.2 _ ht8H.out (by simp [Value.ownBlock]) (by simp [Value.ownBlock]) ho8H.out) (by have := hq4H.out; omega) hqb2 hq16 hA9H.out (hf8H.out.trans hF9H.out)
    · have hd : decide ((i : Int) < (n : Int)) = true := decide_eq_true (by omega)
      obtain ⟨t, ht⟩ : ∃ t, l[i]? = some t := ⟨_, List.getElem?_eq_getElem (by have := hnH.out; omega)⟩
      obtain ⟨a5, k5, T5, hN, hTT, hown⟩ := hI.out.nd
      have hsz := hI.out.f5
      have hDr := hDH.out.keep (w' := wr) (fun g hg => hI.out.kt g hg) (fun _ h => h)
      obtain ⟨gg, k, x, y, nm, aw, nw, cw, ar, nr, cr, ak, nk, ck, ki, xu, yv, mm, bw, ow, dw, br, er, dr, bk, ek, dk, e5, hTg, hPr, n0, n1, n2, n3, n4, n5, n6, m0, m1, m2, m3, m4, m5, m6⟩ := hDr.pr_at hnH.out.symm ht
      subst e5
      have hPrH := Lib.hid hPr
      have hNH := Lib.hid hN
      have hQ := Lib.hid hown
      have hTTH := Lib.hid hTT
      have htH := Lib.hid ht
      clear hDr hPr hN hTg hown hTT ht hDH
      go_upto_region 6 with fail
      obtain ⟨q8, hq8⟩ : ∃ q, wr.heap.size = q := ⟨_, rfl⟩
      obtain ⟨W2, hW2⟩ : ∃ W, wr.alloc (.cells #[.int .i64 k, .bool x, .bool y, .string nm, .slice aw nw cw, .slice ar nr cr, .slice ak nk ck, .int .i64 ki, .bool xu, .bool yv, .string mm, .slice bw ow dw, .slice br er dr, .slice bk ek dk] 145) = W := ⟨_, rfl⟩
      have hb6 : Below wr.heap.size wr W2 := by rw [← hW2]; exact (Below.refl _ _).alloc (Nat.le_refl _) _
      have hB6 : Blk W2 q8 145 #[.int .i64 k, .bool x, .bool y, .string nm, .slice aw nw cw, .slice ar nr cr, .slice ak nk ck, .int .i64 ki, .bool xu, .bool yv, .string mm, .slice bw ow dw, .slice br er dr, .slice bk ek dk] := by rw [← hW2, ← hq8]; exact Blk.new _ _ _
      rw [hW2, hq8]
      have hb7 : Below W2.heap.size W2 (W2.alloc (.cells #[.int .i64 k, .bool x, .bool y, .string nm, .slice aw nw cw, .slice ar nr cr, .slice ak nk ck, .int .i64 ki, .bool xu, .bool yv, .string mm, .slice bw ow dw, .slice br er dr, .slice bk ek dk] 30)) := (Below.refl _ _).alloc (Nat.le_refl _) _
      have hs7 : (W2.alloc (.cells #[.int .i64 k, .bool x, .bool y, .string nm, .slice aw nw cw, .slice ar nr cr, .slice ak nk ck, .int .i64 ki, .bool xu, .bool yv, .string mm, .slice bw ow dw, .slice br er dr, .slice bk ek dk] 30)).heap.size = W2.heap.size + 1 := World.size_alloc _ _
      have hfb6 := (Fb.of_below (b := b) hb6)
      have hfb7 := hfb6.trans (Fb.of_below (b := b) hb7)
      have hN2 := hNH.out.keep hfb6 hlt hqb5
      have hN3 := Lib.hid (hNH.out.keep hfb7 hlt hqb5)
      have hpf3 := Lib.hid ((hI.out.pf.below hb6).below hb7)
      have hfw3 := Lib.hid (hI.out.fb.trans hfb7)
      have hf53 := Lib.hid (Nat.le_trans hI.out.f5 hfb7.size)
      have hkt3 := Lib.hid (fun g (hg : T g) => (hfb7.block g (Nat.lt_of_lt_of_le (hTlt.out g hg).2.1 hI.out.f5) (fun e => by have := (hTlt.out g hg).1; omega)).trans (hI.out.kt g hg))
      have hfb7H := Lib.hid hfb7
      have hPr3 := Lib.hid (hPrH.out.keep (W' := W2.alloc (.cells #[.int .i64 k, .bool x, .bool y, .string nm, .slice aw nw cw, .slice ar nr cr, .slice ak nk ck, .int .i64 ki, .bool xu, .bool yv, .string mm, .slice bw ow dw, .slice br er dr, .slice bk ek dk] 30)) (fun g hg => hfb7.block g (by have := (hTlt.out g hg).2.1; omega) (fun e => by have := (hTlt.out g hg).1; omega)) (fun _ h => h))
      obtain ⟨K5, hown5, hat5⟩ := hN3.out.rk.row
      have hlen2 : (prs (l.take i)).length = 2 * i := by rw [prs_len, List.length_take]; have := hnH.out; omega
      have hlen2H := Lib.hid hlen2
      rw [hlen2] at hown5
      have hown5H := Lib.hid hown5
      have hat5H := Lib.hid hat5
      have hsz2 : w.heap.size ≤ W2.heap.size := (hI.out.fb.trans hfb6).size
      have c6 : W2.cell? ⟨q5, 6, none⟩ = some (.slice a5 (2 * i) k5) := hN2.blk.cell 6
      have d0 : W2.cell? ⟨q8, 0, none⟩ = some (.int .i64 k) := hB6.cell 0
      have d1 : W2.cell? ⟨q8, 1, none⟩ = some (.bool x) := hB6.cell 1
      have d2 : W2.cell? ⟨q8, 2, none⟩ = some (.bool y) := hB6.cell 2
      have d3 : W2.cell? ⟨q8, 3, none⟩ = some (.string nm) := hB6.cell 3
      have d4 : W2.cell? ⟨q8, 4, none⟩ = some (.slice aw nw cw) := hB6.cell 4
      have d5 : W2.cell? ⟨q8, 5, none⟩ = some (.slice ar nr cr) := hB6.cell 5
      have d6 : W2.cell? ⟨q8, 6, none⟩ = some (.slice ak nk ck) := hB6.cell 6
      have d7 : W2.cell? ⟨q8, 7, none⟩ = some (.int .i64 ki) := hB6.cell 7
      have d8 : W2.cell? ⟨q8, 8, none⟩ = some (.bool xu) := hB6.cell 8
      have d9 : W2.cell? ⟨q8, 9, none⟩ = some (.bool yv) := hB6.cell 9
      have d10 : W2.cell? ⟨q8, 10, none⟩ = some (.string mm) := hB6.cell 10
      have d11 : W2.cell? ⟨q8, 11, none⟩ = some (.slice bw ow dw) := hB6.cell 11
      have d12 : W2.cell? ⟨q8, 12, none⟩ = some (.slice br er dr) := hB6.cell 12
      have d13 : W2.cell? ⟨q8, 13, none⟩ = some (.slice bk ek dk) := hB6.cell 13
      have hlen' := hlen.out
      clear hb6 hB6 hW2 hq8 hfb6 hN2 hb7 hfb7 hown5 hat5 hlen2 n0 n1 n2 n3 n4 n5 n6 m0 m1 m2 m3 m4 m5 m6 hsz
      go_wp2_with (at_builtin; refine wpList_app4 rfl _ _ 23 rfl w.heap.size 30 i0 _ 7 104 Tryz.underlying23 hi0H.out hz0 hz1 hz2 rfl (by decide) (.slice a5 (2 * i) k5) (2 * i) (flat K5 (2 * i)) (by rfl) hown5H.out (some ⟨W2.heap.size, 0, none⟩) 2 2 [.int .i64 k, .bool x, .bool y, .string nm, .slice aw nw cw, .slice ar nr cr, .slice ak nk ck, .int .i64 ki, .bool xu, .bool yv, .string mm, .slice bw ow dw, .slice br er dr, .slice bk ek dk] (by rfl) (by rfl) (src_blk (Blk.new W2 _ _)) (by intro u hu; simp at hu; rcases hu with rfl | rfl | rfl | rfl | rfl | rfl | rfl | rfl | rfl | rfl | rfl | rfl | rfl | rfl <;> rfl) (by omega) (by omega) (by rw [hs7]; omega) ?_; intro a6 k6 w6 hown6 hg6 ho6; have hB7 : Blk w6 q5 30 #[.int .i64 9, .bool false, .bool false, .string ⟨#[]⟩, .slice none 0 0, .slice none 0 0, .slice a5 (2 * i) k5] := (hg6.block q5 hN3.out.blk.lt (fun e => hN3.out.qk e.symm)).trans hN3.out.blk; have hB7H := Lib.hid hB7; have u6 : w6.cell? ⟨q5, 6, none⟩ = some (.slice a5 (2 * i) k5) := hB7.cell 6; have v6 := hB7.frozen 6; have hown6H := Lib.hid hown6; have hg6H := Lib.hid hg6; have ho6H := Lib.hid ho6; clear hB7 hown6 hg6 ho6)
      go_roundg (n - (i + 1))
      case measure => omega
      case rel =>
        have htk3 : prs (l.take (i + 1)) = prs (l.take i) ++ [t.1, t.2] := by rw [List.take_add_one, htH.out]; simp [prs]
        have hsz3 : wr.heap.size ≤ W2.heap.size + 1 := by rw [← hs7]; exact hfb7H.out.size
        have hnown : ∀ g, (Value.slice a5 (2 * i) k5).ownBlock = some g → w5.heap.size ≤ g := hQ.out
        obtain ⟨k1, k2, k3⟩ := app_kids (ys := [t.1, t.2]) (Tx := T) (L := fun j => if j = 0 then [.int .i64 k, .bool x, .bool y, .string nm, .slice aw nw cw, .slice ar nr cr, .slice ak nk ck] else [.int .i64 ki, .bool xu, .bool yv, .string mm, .slice bw ow dw, .slice br er dr, .slice bk ek dk]) (K := K5) hN3.out hpf3.out hfw3.out hlt hqb5 hq516 hqw5 (by rw [hlen2H.out]; exact hown6H.out) hat5H.out (by rw [hlen2H.out]; rfl) (fun j u hj => by
          match j, hj with
          | 0, hj =>
            obtain rfl : t.1 = u := by simpa using hj
            exact hPr3.out.a
          | 1, hj =>
            obtain rfl : t.2 = u := by simpa using hj
            exact hPr3.out.b
          | j + 2, hj => simp at hj) (fun g hg => by
          have h3 := hTlt.out g hg
          have h4 := hf53.out
          exact ⟨h3.1, by omega, h3.2.2.1, by simp [Value.ownBlock], by simp [Value.ownBlock], fun e => by have := hnown g e; omega⟩) hg6H.out ho6H.out (fun g e => by have := hnown g e; have := hqs.out.2.2.2.2; omega)
        rw [← htk3] at k1
        have hmv : ∀ p ty cs, Blk wr p ty cs → p ≠ b → ¬ p = q5 → p < w5.heap.size → Blk (w6.setCell ⟨q5, 6, none⟩ (.slice a6 (2 * i + 2) k6)) p ty cs := fun p ty cs hp h1 h2 h3 =>
          (Below.heap_setCell _ _ _ _ h2).trans ((hg6H.out.block p (Nat.lt_of_lt_of_le h3 hf53.out) (fun e => by have := hnown p e.symm; omega)).trans (hfb7H.out.blk hp h1))
        refine ⟨i + 1, rfl, by omega, Lib.hid ⟨k2, k3, Nat.le_trans hf53.out (Nat.le_trans hg6H.out.size (Nat.le_of_eq (World.size_setCell _ _ _).symm)), fun g hg => ?_, hmv _ _ _ hI.out.z hqb2 hq45 hqs.out.1, hmv _ _ _ hI.out.bx hqb hq05 hqs.out.2.2.1, hmv _ _ _ hI.out.bi hqb1 hq35 hqs.out.2.2.2.1, a6, k6, fun g => T5 g ∨ T g, k1, fun g hg => hg.elim (hTTH.out g) id, fun g hg => ?_⟩⟩
        · exact (Below.heap_setCell _ _ _ _ (hTlt.out g hg).2.2.1).trans ((hg6H.out.block g (Nat.lt_of_lt_of_le (hTlt.out g hg).2.1 hf53.out) (fun e => by have := hnown g e.symm; have := (hTlt.out g hg).2.1; omega)).trans (hkt3.out g hg))
        · rcases ho6H.out with h6 | h6
          · exact hnown g (h6.symm.trans hg)
          · have h7 := Option.some.inj (h6.symm.trans hg)
            have := hf53.out
            omega
end
end Go.Proofs.YtnhbcmhinhncfaaGreatDoor
/- A loop. Conditions: the parser lies as stated; a body's contract is handed in. -/
namespace Go.Proofs.YtnhbcmhinhncfaaGreatDoor
open Go.RowKit Go.Shelf Go.PlainAid
set_option linter.unusedVariables false
set_option linter.unusedSimpArgs false
attribute [local go_sem] Oper.semAt_some
section
variable {b : Nat} {s : ByteArray} {w : World} {st : PS} {B : Int → PS → Nd × PS} {d : Int}
set_option maxRecDepth 100000 in
set_option maxHeartbeats 8000000 in
theorem loop_f (t : ByteArray) (hC : BodyC s B d) (h : PF b s w st) : Calls Tryz.prog 103 #[ptr b, .string t, .int .i64 d] w (NdAn b s w (loopP s B t d st).1 (loopP s B t d st).2) := by
  obtain ⟨q4, hq4⟩ : ∃ x, w.heap.size = x := ⟨_, rfl⟩
  obtain ⟨q5, hq5⟩ : ∃ x, w.heap.size + 1 = x := ⟨_, rfl⟩
  have hlt := h.lt
  have h16 := h.b16
  have hqb2 : q4 ≠ b := by omega
  have hqb5 : q5 ≠ b := by omega
  have hq16 : 8 ≤ q4 := by omega
  have hq516 : 8 ≤ q5 := by omega
  have hq45 : ¬ q4 = q5 := by omega
  have hqw5 : w.heap.size ≤ q5 := by omega
  obtain ⟨W, hW⟩ : ∃ W, w.alloc (.cells N7 30) = W := ⟨_, rfl⟩
  have e5 : W.heap.size = q5 := by rw [← hW, World.size_alloc, hq5]
  obtain ⟨W1, hW1⟩ : ∃ W1, W.alloc (.cells #[.int .i64 10, .bool false, .bool false, .string ⟨#[]⟩, .slice none 0 0, .slice none 0 0, .slice none 0 0] 30) = W1 := ⟨_, rfl⟩
  have hb1 : Below w.heap.size w W1 := by rw [← hW1, ← hW]; exact ((Below.refl _ _).alloc (Nat.le_refl _) _).alloc (by rw [World.size_alloc]; omega) _
  have hZ := Lib.hid (show Blk W1 q4 30 N7 by rw [← hW1, ← hW, ← hq4]; exact (Blk.new _ _ _).alloc _)
  have hB5 := Lib.hid (show Blk W1 q5 30 #[.int .i64 10, .bool false, .bool false, .string ⟨#[]⟩, .slice none 0 0, .slice none 0 0, .slice none 0 0] by rw [← hW1, ← e5]; exact Blk.new _ _ _)
  have hA1 := Lib.hid (h.below hb1)
  have hF1 := Lib.hid (Fb.of_below (b := b) hb1)
  have hWH := Lib.hid hW
  have hW1H := Lib.hid hW1
  have hq4H := Lib.hid hq4
  have e5H := Lib.hid e5
  have hr := Lib.hid (show loopP s B t d st = (ndK (if t.toList = [117, 110, 116, 105, 108] then 11 else 10) [(B d st).1, (doG s B d (B d st).2).1], (doG s B d (B d st).2).2) from rfl)
  obtain ⟨kd, hkd⟩ : ∃ kd : Int, (if t.toList = [117, 110, 116, 105, 108] then 11 else 10) = kd := ⟨_, rfl⟩
  rw [hkd] at hr
  have hcb := Lib.hid (fun W hp => hC b W st hp)
  obtain ⟨A1, hA1'⟩ : ∃ A, B d st = A := ⟨_, rfl⟩
  rw [hA1'] at hcb hr
  obtain ⟨n1, st1⟩ := A1
  dsimp only at hcb hr
  have hcd := Lib.hid (fun W (hp : PF b s W st1) => doGroup_f hC hp)
  obtain ⟨A2, hA2'⟩ : ∃ A, doG s B d st1 = A := ⟨_, rfl⟩
  rw [hA2'] at hcd hr
  obtain ⟨n2, st2⟩ := A2
  dsimp only at hcd hr
  rw [hr.out]
  have hkdH := Lib.hid hkd
  have g0 := hB5.out.frozen 0
  have y0 : W1.cell? ⟨q5, 0, none⟩ = some (.int .i64 10) := hB5.out.cell 0
  clear hW hW1 hb1 h hq4 hq5 e5 hA1' hA2' hr hC hkd
  go_enter Tryz.func103, Tryz.ntmps103
  go_upto_region 1 with fail
  rw [hWH.out, hq4H.out]
  go_upto_region 2 with fail
  rw [hW1H.out, e5H.out]
  go_upto_if 11 with fail
  go_cut [] (fun wx => Hid (PF b s wx st ∧ Fb b w wx ∧ Blk wx q4 30 N7 ∧ Blk wx q5 30 #[.int .i64 kd, .bool false, .bool false, .string ⟨#[]⟩, .slice none 0 0, .slice none 0 0, .slice none 0 0]))
  case first =>
    cases h1 : (t.toList == [117, 110, 116, 105, 108])
    · obtain rfl : 10 = kd := by
        have := hkdH.out
        rwa [if_neg (fun e => by rw [e] at h1; cases h1)] at this
      go_wp2_with fail
      go_meet
      case rel => exact Lib.hid ⟨hA1.out, hF1.out, hZ.out, hB5.out⟩
    · obtain rfl : 11 = kd := by
        have := hkdH.out
        rwa [if_pos (eq_of_beq h1)] at this
      go_wp2_with fail
      go_meet
      case rel => exact Lib.hid ⟨hA1.out.write hB5.out (by decide) hqb5 hq516, hF1.out.new_ hqw5 _ _, hZ.out.far hq45 _, hB5.out.set_ 0 _⟩
  case rest =>
    have hpc := Lib.hid hcut.out.1
    have hfc := Lib.hid hcut.out.2.1
    have hzc := Lib.hid hcut.out.2.2.1
    have hbc := Lib.hid hcut.out.2.2.2
    have hcb1 := Lib.hid (hcb.out _ hpc.out)
    clear hcut hcb
    go_upto_region 5 with (go_at_call 98; refine hcb1.out.mono ?_; rintro e w3 ⟨k, x, y, nm, aw, nw, cw, ar, nr, cr, ak, nk, ck, T, rfl, hN, hT, hA3, hF3⟩; have hN3 := Lib.hid hN; have hT3 := Lib.hid hT; have hA3H := Lib.hid hA3; have hF3H := Lib.hid hF3; clear hN hT hA3 hF3)
    obtain ⟨q6, hq6⟩ : ∃ q, w3.heap.size = q := ⟨_, rfl⟩
    obtain ⟨W4, hW4⟩ : ∃ W, w3.alloc (.cells #[.int .i64 k, .bool x, .bool y, .string nm, .slice aw nw cw, .slice ar nr cr, .slice ak nk ck] 30) = W := ⟨_, rfl⟩
    have hb4 : Below w3.heap.size w3 W4 := by rw [← hW4]; exact (Below.refl _ _).alloc (Nat.le_refl _) _
    have hE4 : Blk W4 q6 30 #[.int .i64 k, .bool x, .bool y, .string nm, .slice aw nw cw, .slice ar nr cr, .slice ak nk ck] := by rw [← hW4, ← hq6]; exact Blk.new _ _ _
    rw [hW4, hq6]
    have hHd4 := Lib.hid ((show Hd b w n1 k x y nm aw nw cw ar nr cr ak nk ck T w3 from ⟨hN3.out, fun g hg => ⟨Nat.le_trans hfc.out.size (hT3.out g hg).1, (hT3.out g hg).2⟩⟩).keep (Fb.of_below hb4) hlt)
    have hT4 := Lib.hid (show ¬ T q4 from fun e => by have := (hT3.out q4 e).1; have := hzc.out.lt; omega)
    have hT5 := Lib.hid (show ¬ T q5 from fun e => by have := (hT3.out q5 e).1; have := hbc.out.lt; omega)
    have hb4H := Lib.hid hb4
    have hF4 := Lib.hid (hF3H.out.trans (Fb.of_below hb4))
    have hfw4 := Lib.hid (hfc.out.trans hF4.out)
    have hZ4 := Lib.hid (show Blk W4.drew q4 30 N7 from hF4.out.blk hzc.out hqb2)
    have hB4 := Lib.hid (show Blk W4.drew q5 30 _ from hF4.out.blk hbc.out hqb5)
    have hE4H := Lib.hid (show Blk W4.drew q6 30 _ from hE4)
    have hcd1 := Lib.hid (hcd.out W4.drew ((hA3H.out.below hb4).below (below_drew (Below.refl _ _) 1)))
    have hq6b : q6 ≠ b := by have := hfc.out.size; have := hF3H.out.size; omega
    have hq65 : ¬ q6 = q5 := by have := hbc.out.lt; have := hF3H.out.size; omega
    have hq56 : ¬ q5 = q6 := fun e => hq65 e.symm
    have c0 : W4.drew.cell? ⟨q6, 0, none⟩ = some (.int .i64 k) := hE4H.out.cell 0
    have c1 : W4.drew.cell? ⟨q6, 1, none⟩ = some (.bool x) := hE4H.out.cell 1
    have c2 : W4.drew.cell? ⟨q6, 2, none⟩ = some (.bool y) := hE4H.out.cell 2
    have c3 : W4.drew.cell? ⟨q6, 3, none⟩ = some (.string nm) := hE4H.out.cell 3
    have c4 : W4.drew.cell? ⟨q6, 4, none⟩ = some (.slice aw nw cw) := hE4H.out.cell 4
    have c5 : W4.drew.cell? ⟨q6, 5, none⟩ = some (.slice ar nr cr) := hE4H.out.cell 5
    have c6 : W4.drew.cell? ⟨q6, 6, none⟩ = some (.slice ak nk ck) := hE4H.out.cell 6
    clear hb4 hE4 hW4 hq6 hcd hN3 hT3 hcb1
    go_region_with (first
      | (go_at_call 119; refine hcd1.out.mono ?_; rintro e w7 ⟨k2, x2, y2, nm2, aw2, nw2, cw2, ar2, nr2, cr2, ak2, nk2, ck2, T2, rfl, hN, hT, hA7, hF7⟩; have hN7 := Lib.hid hN; have hT7 := Lib.hid hT; have hA7H := Lib.hid hA7; have hF7H := Lib.hid hF7; have hB7 := Lib.hid (hF7.blk hB4.out hqb5); have hE7 := Lib.hid (hF7.blk hE4H.out hq6b); have hZ7 := Lib.hid (hF7.blk hZ4.out hqb2); clear hN hT hA7 hF7; have v0 : w7.cell? ⟨q6, 0, none⟩ = some (.int .i64 k) := hE7.out.cell 0; have v1 : w7.cell? ⟨q6, 1, none⟩ = some (.bool x) := hE7.out.cell 1; have v2 : w7.cell? ⟨q6, 2, none⟩ = some (.bool y) := hE7.out.cell 2; have v3 : w7.cell? ⟨q6, 3, none⟩ = some (.string nm) := hE7.out.cell 3; have v4 : w7.cell? ⟨q6, 4, none⟩ = some (.slice aw nw cw) := hE7.out.cell 4; have v5 : w7.cell? ⟨q6, 5, none⟩ = some (.slice ar nr cr) := hE7.out.cell 5; have v6 : w7.cell? ⟨q6, 6, none⟩ = some (.slice ak nk ck) := hE7.out.cell 6; have l5 : q5 < w7.heap.size := hB7.out.lt; have l6 : q6 < w7.heap.size := hE7.out.lt; have u6 : w7.cell? ⟨q5, 6, none⟩ = some (.slice none 0 0) := hB7.out.cell 6; have r6 := hB7.out.frozen 6))
    all_goals
      have hF7w := Lib.hid (hfw4.out.trans (((Fb.refl b W4).drewN 1).trans hF7H.out))
      have hHd7 := Lib.hid ((hHd4.out.keep ((Fb.refl b W4).drewN 1) hlt).keep hF7H.out hlt)
      have hT2 := Lib.hid (fun g (hg : T2 g) => (show w.heap.size ≤ g ∧ g < w7.heap.size ∧ g ≠ q4 ∧ g ≠ q5 from ⟨Nat.le_trans hfw4.out.size (hT7.out g hg).1, (hT7.out g hg).2, fun e => by have h1 := (hT7.out g hg).1; have := hZ4.out.lt; omega, fun e => by have h1 := (hT7.out g hg).1; have := hB4.out.lt; omega⟩))
      obtain ⟨W8, hW8⟩ : ∃ W, w7.setCell ⟨q5, 6, none⟩ (.slice (some ⟨w7.heap.size, 0, none⟩) 2 2) = W := ⟨_, rfl⟩
      have hs8 : W8.heap.size = w7.heap.size := by rw [← hW8]; exact World.size_setCell _ _ _
      have hk8 : ∀ g, g ≠ q5 → W8.heap[g]? = w7.heap[g]? := fun g hg => by rw [← hW8]; exact Below.heap_setCell _ _ _ _ hg
      have hp8 : PF b s W8 st2 := by rw [← hW8]; exact hA7H.out.write hB7.out (by decide) hqb5 hq516
      have hf8 : Fb b w W8 := by rw [← hW8]; exact hF7w.out.new_ hqw5 _ _
      have hB8 : Blk W8 q5 30 #[.int .i64 kd, .bool false, .bool false, .string ⟨#[]⟩, .slice none 0 0, .slice none 0 0, .slice (some ⟨w7.heap.size, 0, none⟩) 2 2] := by rw [← hW8]; exact hB7.out.set_ 6 _
      rw [hW8]
      obtain ⟨W9, hW9⟩ : ∃ W, W8.alloc (.cells #[.int .i64 k, .bool x, .bool y, .string nm, .slice aw nw cw, .slice ar nr cr, .slice ak nk ck, .int .i64 k2, .bool x2, .bool y2, .string nm2, .slice aw2 nw2 cw2, .slice ar2 nr2 cr2, .slice ak2 nk2 ck2] 30) = W := ⟨_, rfl⟩
      have hb9 : Below W8.heap.size W8 W9 := by rw [← hW9]; exact (Below.refl _ _).alloc (Nat.le_refl _) _
      have hBn : Blk W9 w7.heap.size 30 #[.int .i64 k, .bool x, .bool y, .string nm, .slice aw nw cw, .slice ar nr cr, .slice ak nk ck, .int .i64 k2, .bool x2, .bool y2, .string nm2, .slice aw2 nw2 cw2, .slice ar2 nr2 cr2, .slice ak2 nk2 ck2] := by rw [← hW9, ← hs8]; exact Blk.new _ _ _
      have hs9 : W9.heap.size = w7.heap.size + 1 := by rw [← hW9, World.size_alloc, hs8]
      rw [hW9]
      have hkk : ∀ g, g < w7.heap.size → g ≠ q5 → W9.heap[g]? = w7.heap[g]? := fun g h1 h2 => (hb9.block g (by omega)).trans (hk8 g h2)
      have hN1 : NdAt W9 (fun g => (T g ∨ T2 g) ∨ g = w7.heap.size) [.int .i64 k, .bool x, .bool y, .string nm, .slice aw nw cw, .slice ar nr cr, .slice ak nk ck] n1 := hHd7.out.at_.keep (fun g hg => hkk g (hHd7.out.ge g hg).2 (fun e => hT5.out (e ▸ hg))) (fun g h => .inl (.inl h))
      have hN2 : NdAt W9 (fun g => (T g ∨ T2 g) ∨ g = w7.heap.size) [.int .i64 k2, .bool x2, .bool y2, .string nm2, .slice aw2 nw2 cw2, .slice ar2 nr2 cr2, .slice ak2 nk2 ck2] n2 := hN7.out.keep (fun g hg => hkk g (hT2.out g hg).2.1 (hT2.out g hg).2.2.2) (fun g h => .inl (.inr h))
      have hZ9 := Lib.hid (show Blk W9 q4 30 N7 from (hkk q4 hZ7.out.lt hq45).trans hZ7.out)
      have hHd9 := Lib.hid (show Hd b w (ndK kd [n1, n2]) kd false false ⟨#[]⟩ none 0 0 none 0 0 (some ⟨w7.heap.size, 0, none⟩) 2 2 (fun g => (T g ∨ T2 g) ∨ g = w7.heap.size) W9 from ⟨NdAt.of (ws := []) (rs := []) (kids := [n1, n2]) (Done.nil _ _ _ _) (Done.nil _ _ _ _) (kids2 hBn hN1 hN2 (.inr rfl)), fun g hg => by
        rw [hs9]
        rcases hg with (hg | hg) | hg
        · have := hHd7.out.ge g hg; omega
        · have := hT2.out g hg; omega
        · have := hF7w.out.size; omega⟩)
      have hp9 := Lib.hid (hp8.below hb9)
      have hf9 := Lib.hid (hf8.trans (Fb.of_below hb9))
      have hn4 := Lib.hid (show ¬ ((T q4 ∨ T2 q4) ∨ q4 = w7.heap.size) from fun e => by
        rcases e with (e | e) | e
        · exact hT4.out e
        · exact (hT2.out _ e).2.2.1 rfl
        · have := hZ7.out.lt; omega)
      have hB9 := hB8.alloc (.cells #[.int .i64 k, .bool x, .bool y, .string nm, .slice aw nw cw, .slice ar nr cr, .slice ak nk ck, .int .i64 k2, .bool x2, .bool y2, .string nm2, .slice aw2 nw2 cw2, .slice ar2 nr2 cr2, .slice ak2 nk2 ck2] 30)
      rw [hW9] at hB9
      have d0 : W9.cell? ⟨q5, 0, none⟩ = some (.int .i64 kd) := hB9.cell 0
      have d1 : W9.cell? ⟨q5, 1, none⟩ = some (.bool false) := hB9.cell 1
      have d2 : W9.cell? ⟨q5, 2, none⟩ = some (.bool false) := hB9.cell 2
      have d3 : W9.cell? ⟨q5, 3, none⟩ = some (.string ⟨#[]⟩) := hB9.cell 3
      have d4 : W9.cell? ⟨q5, 4, none⟩ = some (.slice none 0 0) := hB9.cell 4
      have d5 : W9.cell? ⟨q5, 5, none⟩ = some (.slice none 0 0) := hB9.cell 5
      have d6 : W9.cell? ⟨q5, 6, none⟩ = some (.slice (some ⟨w7.heap.size, 0, none⟩) 2 2) := hB9.cell 6
      have z0 : W9.cell? ⟨q4, 0, none⟩ = some (.int .i64 0) := hZ9.out.cell 0
      have z1 : W9.cell? ⟨q4, 1, none⟩ = some (.bool false) := hZ9.out.cell 1
      have z2 : W9.cell? ⟨q4, 2, none⟩ = some (.bool false) := hZ9.out.cell 2
      have z3 : W9.cell? ⟨q4, 3, none⟩ = some (.string ⟨#[]⟩) := hZ9.out.cell 3
      have z4 : W9.cell? ⟨q4, 4, none⟩ = some (.slice none 0 0) := hZ9.out.cell 4
      have z5 : W9.cell? ⟨q4, 5, none⟩ = some (.slice none 0 0) := hZ9.out.cell 5
      have z6 : W9.cell? ⟨q4, 6, none⟩ = some (.slice none 0 0) := hZ9.out.cell 6
      have f0 := hZ9.out.frozen 0
      have f1 := hZ9.out.frozen 1
      have f2 := hZ9.out.frozen 2
      have f3 := hZ9.out.frozen 3
      have f4 := hZ9.out.frozen 4
      have f5 := hZ9.out.frozen 5
      have f6 := hZ9.out.frozen 6
      clear hW8 hs8 hk8 hp8 hf8 hB8 hW9 hb9 hBn hs9 hkk hN1 hN2 hB9 c0 c1 c2 c3 c4 c5 c6 v0 v1 v2 v3 v4 v5 v6 u6 r6 g0
      go_wp2_with fail
      refine bodyPost_ret (results_cell_row rfl _ _ q4 30 #[.int .i64 kd, .bool false, .bool false, .string ⟨#[]⟩, .slice none 0 0, .slice none 0 0, .slice (some ⟨w7.heap.size, 0, none⟩) 2 2] (0, 0) _ rfl (put7_blk hZ9.out _ _ _ _ _ _ _) Tryz.underlying30 rfl (by kernel_rfl)) rfl ?_
      exact hHd9.out.an hZ9.out hn4.out (Nat.le_of_eq hq4H.out) hqb2 hq16 hp9.out hf9.out
end
end Go.Proofs.YtnhbcmhinhncfaaGreatDoor
