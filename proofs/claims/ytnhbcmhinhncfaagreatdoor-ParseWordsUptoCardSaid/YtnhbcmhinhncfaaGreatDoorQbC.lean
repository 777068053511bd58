/- A series of pairs of trees. Conditions: the parser lies as stated; what reads and what asks on are handed in. -/
import Derived.Test.YtnhbcmhinhncfaaGreatDoorQbB
namespace Go.Proofs.YtnhbcmhinhncfaaGreatDoor
open Go.RowKit Go.Shelf Go.PlainAid
set_option linter.unusedVariables false
set_option linter.unusedSimpArgs false
attribute [local go_sem] Oper.semAt_some
abbrev N14 : Array Value := #[.int .i64 0, .bool false, .bool false, .string ⟨#[]⟩, .slice none 0 0, .slice none 0 0, .slice none 0 0, .int .i64 0, .bool false, .bool false, .string ⟨#[]⟩, .slice none 0 0, .slice none 0 0, .slice none 0 0]
def put14 (w : World) (q : Nat) (a1 a2 a3 a4 a5 a6 a7 b1 b2 b3 b4 b5 b6 b7 : Value) : World := (((((((put7 w q a1 a2 a3 a4 a5 a6 a7).setCell ⟨q, 7, none⟩ b1).setCell ⟨q, 8, none⟩ b2).setCell ⟨q, 9, none⟩ b3).setCell ⟨q, 10, none⟩ b4).setCell ⟨q, 11, none⟩ b5).setCell ⟨q, 12, none⟩ b6).setCell ⟨q, 13, none⟩ b7
theorem put14_blk {W : World} {q : Nat} {T : TypeId} {v1 v2 v3 v4 v5 v6 v7 u1 u2 u3 u4 u5 u6 u7 : Value} (hB : Blk W q T #[v1, v2, v3, v4, v5, v6, v7, u1, u2, u3, u4, u5, u6, u7]) (a1 a2 a3 a4 a5 a6 a7 b1 b2 b3 b4 b5 b6 b7 : Value) : Blk (put14 W q a1 a2 a3 a4 a5 a6 a7 b1 b2 b3 b4 b5 b6 b7) q T #[a1, a2, a3, a4, a5, a6, a7, b1, b2, b3, b4, b5, b6, b7] := by
  have h1 : Blk _ q T #[a1, v2, v3, v4, v5, v6, v7, u1, u2, u3, u4, u5, u6, u7] := hB.set_ 0 a1
  have h2 : Blk _ q T #[a1, a2, v3, v4, v5, v6, v7, u1, u2, u3, u4, u5, u6, u7] := h1.set_ 1 a2
  have h3 : Blk _ q T #[a1, a2, a3, v4, v5, v6, v7, u1, u2, u3, u4, u5, u6, u7] := h2.set_ 2 a3
  have h4 : Blk _ q T #[a1, a2, a3, a4, v5, v6, v7, u1, u2, u3, u4, u5, u6, u7] := h3.set_ 3 a4
  have h5 : Blk _ q T #[a1, a2, a3, a4, a5, v6, v7, u1, u2, u3, u4, u5, u6, u7] := h4.set_ 4 a5
  have h6 : Blk _ q T #[a1, a2, a3, a4, a5, a6, v7, u1, u2, u3, u4, u5, u6, u7] := h5.set_ 5 a6
  have h7 : Blk _ q T #[a1, a2, a3, a4, a5, a6, a7, u1, u2, u3, u4, u5, u6, u7] := h6.set_ 6 a7
  have h8 : Blk _ q T #[a1, a2, a3, a4, a5, a6, a7, b1, u2, u3, u4, u5, u6, u7] := h7.set_ 7 b1
  have h9 : Blk _ q T #[a1, a2, a3, a4, a5, a6, a7, b1, b2, u3, u4, u5, u6, u7] := h8.set_ 8 b2
  have h10 : Blk _ q T #[a1, a2, a3, a4, a5, a6, a7, b1, b2, b3, u4, u5, u6, u7] := h9.set_ 9 b3
  have h11 : Blk _ q T #[a1, a2, a3, a4, a5, a6, a7, b1, b2, b3, b4, u5, u6, u7] := h10.set_ 10 b4
  have h12 : Blk _ q T #[a1, a2, a3, a4, a5, a6, a7, b1, b2, b3, b4, b5, u6, u7] := h11.set_ 11 b5
  have h13 : Blk _ q T #[a1, a2, a3, a4, a5, a6, a7, b1, b2, b3, b4, b5, b6, u7] := h12.set_ 12 b6
  exact h13.set_ 13 b7
theorem put14_far (W : World) (q : Nat) (a1 a2 a3 a4 a5 a6 a7 b1 b2 b3 b4 b5 b6 b7 : Value) {g : Nat} (h : g ≠ q) : (put14 W q a1 a2 a3 a4 a5 a6 a7 b1 b2 b3 b4 b5 b6 b7).heap[g]? = W.heap[g]? := by
  unfold put14
  rw [Below.heap_setCell _ _ _ _ h, Below.heap_setCell _ _ _ _ h, Below.heap_setCell _ _ _ _ h, Below.heap_setCell _ _ _ _ h, Below.heap_setCell _ _ _ _ h, Below.heap_setCell _ _ _ _ h, Below.heap_setCell _ _ _ _ h]
  exact put7_far _ _ _ _ _ _ _ _ _ h
theorem put14_size (W : World) (q : Nat) (a1 a2 a3 a4 a5 a6 a7 b1 b2 b3 b4 b5 b6 b7 : Value) : (put14 W q a1 a2 a3 a4 a5 a6 a7 b1 b2 b3 b4 b5 b6 b7).heap.size = W.heap.size := by
  unfold put14
  simp only [World.size_setCell]
  exact put7_size _ _ _ _ _ _ _ _ _
theorem put14_fb {b : Nat} {w W : World} {q : Nat} (h : Fb b w W) (hq : w.heap.size ≤ q) (a1 a2 a3 a4 a5 a6 a7 b1 b2 b3 b4 b5 b6 b7 : Value) : Fb b w (put14 W q a1 a2 a3 a4 a5 a6 a7 b1 b2 b3 b4 b5 b6 b7) := (((((((put7_fb h hq _ _ _ _ _ _ _).new_ hq _ _).new_ hq _ _).new_ hq _ _).new_ hq _ _).new_ hq _ _).new_ hq _ _).new_ hq _ _
theorem PF.put14 {b : Nat} {s : ByteArray} {st : PS} {q : Nat} {T : TypeId} {cs : Array Value} {W : World} (h : PF b s W st) (hB : Blk W q T cs) (hT : T ≠ 58) (hqb : q ≠ b) (h16 : 8 ≤ q) (a1 a2 a3 a4 a5 a6 a7 b1 b2 b3 b4 b5 b6 b7 : Value) : PF b s (Go.Proofs.YtnhbcmhinhncfaaGreatDoor.put14 W q a1 a2 a3 a4 a5 a6 a7 b1 b2 b3 b4 b5 b6 b7) st :=
  h.other hB hT hqb h16 (Nat.le_of_eq (put14_size _ _ _ _ _ _ _ _ _ _ _ _ _ _ _ _).symm) (fun g hg => put14_far _ _ _ _ _ _ _ _ _ _ _ _ _ _ _ _ hg)
/-- Two trees in memory. -/
structure Pr (W : World) (T : Nat → Prop) (c d : List Value) (x : Nd × Nd) : Prop where
  a : NdAt W T c x.1
  b : NdAt W T d x.2
theorem Pr.keep {W W' : World} {T T' : Nat → Prop} {c d : List Value} {x : Nd × Nd} (h : Pr W T c d x) (hk : ∀ g, T g → W'.heap[g]? = W.heap[g]?) (hT : ∀ g, T g → T' g) : Pr W' T' c d x := ⟨h.a.keep hk hT, h.b.keep hk hT⟩
/-- What answers two trees. -/
def PrAn (b : Nat) (s : ByteArray) (w : World) (n : Nd × Nd) (st : PS) (e : Ending) (w' : World) : Prop :=
  ∃ (k : Int) (x y : Bool) (nm : ByteArray) (aw : Option Addr) (nw cw : Nat) (ar : Option Addr) (nr cr : Nat) (ak : Option Addr) (nk ck : Nat) (ki : Int) (xu yv : Bool) (mm : ByteArray) (bw : Option Addr) (ow dw : Nat) (br : Option Addr) (er dr : Nat) (bk : Option Addr) (ek dk : Nat) (T : Nat → Prop), e = .returned (.agg #[.int .i64 k, .bool x, .bool y, .string nm, .slice aw nw cw, .slice ar nr cr, .slice ak nk ck, .int .i64 ki, .bool xu, .bool yv, .string mm, .slice bw ow dw, .slice br er dr, .slice bk ek dk]) ∧
    Pr w' T [.int .i64 k, .bool x, .bool y, .string nm, .slice aw nw cw, .slice ar nr cr, .slice ak nk ck] [.int .i64 ki, .bool xu, .bool yv, .string mm, .slice bw ow dw, .slice br er dr, .slice bk ek dk] n ∧ (∀ g, T g → w.heap.size ≤ g ∧ g < w'.heap.size) ∧ PF b s w' st ∧ Fb b w w'
theorem infoPr : (Tryz.prog.info? 145).map (fun i => (i.zero, i.size, i.bytes)) = some (some (.agg N14), 14, 208) := by kernel_rfl
section
variable {b : Nat} {s : ByteArray} {w : World} {st : PS} {R : PS → (Nd × Nd) × PS} {M : PS → Bool × PS}
/-- What holds at the head of the loop. -/
structure SpI (b q5 : Nat) (s : ByteArray) (w : World) (st : PS) (R : PS → (Nd × Nd) × PS) (M : PS → Bool × PS) (CI : World → Prop) (J : PS → Prop) (st0 : PS) (T : Nat → Prop) (v : Value) (xs : List (Nd × Nd)) (W : World) : Prop where
  pf : PF b s W (R st0).2
  ok0 : PW s st0
  j0 : J st0
  ci : CI W
  fb : Fb b w W
  blk : ∃ (k : Int) (x y : Bool) (nm : ByteArray) (aw : Option Addr) (nw cw : Nat) (ar : Option Addr) (nr cr : Nat) (ak : Option Addr) (nk ck : Nat) (ki : Int) (xu yv : Bool) (mm : ByteArray) (bw : Option Addr) (ow dw : Nat) (br : Option Addr) (er dr : Nat) (bk : Option Addr) (ek dk : Nat), Blk W q5 145 #[.int .i64 k, .bool x, .bool y, .string nm, .slice aw nw cw, .slice ar nr cr, .slice ak nk ck, .int .i64 ki, .bool xu, .bool yv, .string mm, .slice bw ow dw, .slice br er dr, .slice bk ek dk]
  row : RowOf ElP 145 w.heap.size W T v xs
  off : v.ownBlock ≠ some q5
  offT : ¬ T q5
  ser : ser s R (fun _ => M) st = (xs ++ (serM (s := s) R (fun _ => M) (R st0).1 (R st0).2).1, (serM (s := s) R (fun _ => M) (R st0).1 (R st0).2).2)
  ln : xs.length + rem s st0 ≤ 140001
set_option maxRecDepth 100000 in
set_option maxHeartbeats 4000000 in
theorem serP_any (kR kM : Nat) (fi1 ca1 fi2 ca2 : Array Value) (hE1 : Enters Tryz.prog kR) (hE2 : Enters Tryz.prog kM) (CI : World → Prop) (hCI : ∀ W W', CI W → Fb b W W' → CI W')
    (J : PS → Prop) (hJ : ∀ st, PW s st → J st → J (M (R st).2).2)
    (hR : ∀ W st, CI W → J st → PF b s W st → Calls Tryz.prog kR (fi1 ++ ca1) W (PrAn b s W (R st).1 (R st).2))
    (hM : ∀ W st (k : Int) (x y : Bool) (nm : ByteArray) (aw : Option Addr) (nw cw : Nat) (ar : Option Addr) (nr cr : Nat) (ak : Option Addr) (nk ck : Nat) (ki : Int) (xu yv : Bool) (mm : ByteArray) (bw : Option Addr) (ow dw : Nat) (br : Option Addr) (er dr : Nat) (bk : Option Addr) (ek dk : Nat), CI W → PF b s W st → Calls Tryz.prog kM (fi2 ++ #[.agg #[.int .i64 k, .bool x, .bool y, .string nm, .slice aw nw cw, .slice ar nr cr, .slice ak nk ck, .int .i64 ki, .bool xu, .bool yv, .string mm, .slice bw ow dw, .slice br er dr, .slice bk ek dk]] ++ ca2) W (An b s W (.bool (M st).1) (M st).2))
    (hP : ∀ st, PW s st → PW s (M (R st).2).2) (hd : ∀ st, PW s st → (M (R st).2).1 = true → rem s (M (R st).2).2 < rem s st)
    (h : PF b s w st) (hc : CI w) (hj : J st) :
    Calls Tryz.prog 116 #[.func (.func kR) fi1 ca1, .func (.func kM) fi2 ca2] w (RowAn ElP 145 b s w (ser s R (fun _ => M) st).1 (ser s R (fun _ => M) st).2) := by
  obtain ⟨i0, hi0, hz0, hz1, hz2⟩ := info_parts infoPr
  have hi0H := Lib.hid hi0
  have hE1' : ∀ (args : Array Value) (w : World), (callFunc kR args).run Tryz.prog w = .ok (.enter kR args) w := hE1
  have hE2' : ∀ (args : Array Value) (w : World), (callFunc kM args).run Tryz.prog w = .ok (.enter kM args) w := hE2
  have hRH := Lib.hid hR
  have hMH := Lib.hid hM
  have hH := Lib.hid h
  have hcH := Lib.hid hc
  have hjH := Lib.hid hj
  have hJH := Lib.hid hJ
  have hCIH := Lib.hid hCI
  have hlt := h.lt
  have hPH := Lib.hid hP
  have hdH := Lib.hid hd
  clear hE1 hE2 hR hM h hc hi0 hCI hP hd hj hJ
  have hr1 := Lib.hid (hRH.out w st hcH.out hjH.out hH.out)
  go_enter Tryz.func116, Tryz.ntmps116
  go_upto_region 2 with (go_at_fn kR; refine hr1.out.mono ?_; rintro e w1 ⟨k1, x1, y1, nm1, aw1, nw1, cw1, ar1, nr1, cr1, ak1, nk1, ck1, ki1, xu1, yv1, mm1, bw1, ow1, dw1, br1, er1, dr1, bk1, ek1, dk1, T1, rfl, hN1, hT1, hA1, hF1⟩; have hN1H := Lib.hid hN1; have hT1H := Lib.hid hT1; have hA1H := Lib.hid hA1; have hF1H := Lib.hid hF1; clear hN1 hT1 hA1 hF1)
  obtain ⟨q5, hq5⟩ : ∃ q, w1.heap.size = q := ⟨_, rfl⟩
  obtain ⟨W1, hW1⟩ : ∃ W, w1.alloc (.cells #[.int .i64 k1, .bool x1, .bool y1, .string nm1, .slice aw1 nw1 cw1, .slice ar1 nr1 cr1, .slice ak1 nk1 ck1, .int .i64 ki1, .bool xu1, .bool yv1, .string mm1, .slice bw1 ow1 dw1, .slice br1 er1 dr1, .slice bk1 ek1 dk1] 145) = W := ⟨_, rfl⟩
  have hs1 : W1.heap.size = q5 + 1 := by rw [← hW1, World.size_alloc, hq5]
  have hb1 : Below w1.heap.size w1 W1 := by rw [← hW1]; exact (Below.refl _ _).alloc (Nat.le_refl _) _
  have hB1 : Blk W1 q5 145 #[.int .i64 k1, .bool x1, .bool y1, .string nm1, .slice aw1 nw1 cw1, .slice ar1 nr1 cr1, .slice ak1 nk1 ck1, .int .i64 ki1, .bool xu1, .bool yv1, .string mm1, .slice bw1 ow1 dw1, .slice br1 er1 dr1, .slice bk1 ek1 dk1] := by rw [← hW1, ← hq5]; exact Blk.new _ _ _
  rw [hW1, hq5]
  have hw1s : w.heap.size ≤ q5 := by rw [← hq5]; exact hF1H.out.size
  have hqH := Lib.hid hq5
  have c0 : W1.cell? ⟨q5, 0, none⟩ = some (.int .i64 k1) := hB1.cell 0
  have c1 : W1.cell? ⟨q5, 1, none⟩ = some (.bool x1) := hB1.cell 1
  have c2 : W1.cell? ⟨q5, 2, none⟩ = some (.bool y1) := hB1.cell 2
  have c3 : W1.cell? ⟨q5, 3, none⟩ = some (.string nm1) := hB1.cell 3
  have c4 : W1.cell? ⟨q5, 4, none⟩ = some (.slice aw1 nw1 cw1) := hB1.cell 4
  have c5 : W1.cell? ⟨q5, 5, none⟩ = some (.slice ar1 nr1 cr1) := hB1.cell 5
  have c6 : W1.cell? ⟨q5, 6, none⟩ = some (.slice ak1 nk1 ck1) := hB1.cell 6
  have c7 : W1.cell? ⟨q5, 7, none⟩ = some (.int .i64 ki1) := hB1.cell 7
  have c8 : W1.cell? ⟨q5, 8, none⟩ = some (.bool xu1) := hB1.cell 8
  have c9 : W1.cell? ⟨q5, 9, none⟩ = some (.bool yv1) := hB1.cell 9
  have c10 : W1.cell? ⟨q5, 10, none⟩ = some (.string mm1) := hB1.cell 10
  have c11 : W1.cell? ⟨q5, 11, none⟩ = some (.slice bw1 ow1 dw1) := hB1.cell 11
  have c12 : W1.cell? ⟨q5, 12, none⟩ = some (.slice br1 er1 dr1) := hB1.cell 12
  have c13 : W1.cell? ⟨q5, 13, none⟩ = some (.slice bk1 ek1 dk1) := hB1.cell 13
  have hb1H := Lib.hid hb1
  have hB1H := Lib.hid hB1
  have hs1H := Lib.hid hs1
  clear hW1 hb1 hB1 hq5
  go_wp2_with fail
  go_loopg [6] (rem s st) (fun g v wr => ∃ (st0 : PS) (T : Nat → Prop) (xs : List (Nd × Nd)), g = rem s st0 ∧ Hid (SpI b q5 s w st R M CI J st0 T v xs wr))
  case atStart =>
    have hb2 : Below W1.heap.size W1 (W1.alloc (.cells #[.int .i64 k1, .bool x1, .bool y1, .string nm1, .slice aw1 nw1 cw1, .slice ar1 nr1 cr1, .slice ak1 nk1 ck1, .int .i64 ki1, .bool xu1, .bool yv1, .string mm1, .slice bw1 ow1 dw1, .slice br1 er1 dr1, .slice bk1 ek1 dk1] 145)) := (Below.refl _ _).alloc (Nat.le_refl _) _
    have hB2 : Blk (W1.alloc (.cells #[.int .i64 k1, .bool x1, .bool y1, .string nm1, .slice aw1 nw1 cw1, .slice ar1 nr1 cr1, .slice ak1 nk1 ck1, .int .i64 ki1, .bool xu1, .bool yv1, .string mm1, .slice bw1 ow1 dw1, .slice br1 er1 dr1, .slice bk1 ek1 dk1] 145)) (q5 + 1) 145 #[.int .i64 k1, .bool x1, .bool y1, .string nm1, .slice aw1 nw1 cw1, .slice ar1 nr1 cr1, .slice ak1 nk1 ck1, .int .i64 ki1, .bool xu1, .bool yv1, .string mm1, .slice bw1 ow1 dw1, .slice br1 er1 dr1, .slice bk1 ek1 dk1] := by rw [← hs1H.out]; exact Blk.new _ _ _
    have hbb2 := (Fb.of_below (b := b) hb1H.out).trans (Fb.of_below hb2)
    have hbb := hF1H.out.trans hbb2
    have hNx := hN1H.out.keep (fun g hg => hbb2.block g (hT1H.out g hg).2 (by have := (hT1H.out g hg).1; omega)) (fun _ h => h)
    refine ⟨st, T1, [(R st).1], rfl, Lib.hid ⟨(hA1H.out.below hb1H.out).below hb2, hH.out.ok, hjH.out, hCIH.out _ _ hcH.out hbb, hbb, ⟨k1, x1, y1, nm1, aw1, nw1, cw1, ar1, nr1, cr1, ak1, nk1, ck1, ki1, xu1, yv1, mm1, bw1, ow1, dw1, br1, er1, dr1, bk1, ek1, dk1, hB1H.out.alloc _⟩, RowOf.one_ hB2 (by omega) (show ElP.at_ _ _ [.int .i64 k1, .bool x1, .bool y1, .string nm1, .slice aw1 nw1 cw1, .slice ar1 nr1 cr1, .slice ak1 nk1 ck1, .int .i64 ki1, .bool xu1, .bool yv1, .string mm1, .slice bw1 ow1 dw1, .slice br1 er1 dr1, .slice bk1 ek1 dk1] _ from ⟨_, _, hNx.a, hNx.b, rfl⟩) (fun g h => ⟨(hT1H.out g h).1, Nat.lt_of_lt_of_le (hT1H.out g h).2 hbb2.size, by have := (hT1H.out g h).2; have := hqH.out; omega⟩), ?_, fun h => by have := (hT1H.out _ h).2; have := hqH.out; omega, ?_, ?_⟩⟩
    · show some (q5 + 1) ≠ some q5
      intro e
      injection e with e
      omega
    · rw [ser_is R (fun _ => M) hPH.out hdH.out hH.out.ok]
      rfl
    · have := rem_bd hH.out.ok
      show 1 + rem s st ≤ 140001
      omega
  case round =>
    clear hr1 hA1H hF1H hb1H hB1H hs1H hN1H hT1H hqH c0 c1 c2 c3 c4 c5 c6 c7 c8 c9 c10 c11 c12 c13
    obtain ⟨st0, T, xs, hg, hI⟩ := hrel
    obtain ⟨k2, x2, y2, nm2, aw2, nw2, cw2, ar2, nr2, cr2, ak2, nk2, ck2, ki2, xu2, yv2, mm2, bw2, ow2, dw2, br2, er2, dr2, bk2, ek2, dk2, hB⟩ := hI.out.blk
    have hm := Lib.hid (hMH.out wr (R st0).2 k2 x2 y2 nm2 aw2 nw2 cw2 ar2 nr2 cr2 ak2 nk2 ck2 ki2 xu2 yv2 mm2 bw2 ow2 dw2 br2 er2 dr2 bk2 ek2 dk2 hI.out.ci hI.out.pf)
    have hser := Lib.hid hI.out.ser
    have yy0 : wr.cell? ⟨q5, 0, none⟩ = some (.int .i64 k2) := hB.cell 0
    have yy1 : wr.cell? ⟨q5, 1, none⟩ = some (.bool x2) := hB.cell 1
    have yy2 : wr.cell? ⟨q5, 2, none⟩ = some (.bool y2) := hB.cell 2
    have yy3 : wr.cell? ⟨q5, 3, none⟩ = some (.string nm2) := hB.cell 3
    have yy4 : wr.cell? ⟨q5, 4, none⟩ = some (.slice aw2 nw2 cw2) := hB.cell 4
    have yy5 : wr.cell? ⟨q5, 5, none⟩ = some (.slice ar2 nr2 cr2) := hB.cell 5
    have yy6 : wr.cell? ⟨q5, 6, none⟩ = some (.slice ak2 nk2 ck2) := hB.cell 6
    have yy7 : wr.cell? ⟨q5, 7, none⟩ = some (.int .i64 ki2) := hB.cell 7
    have yy8 : wr.cell? ⟨q5, 8, none⟩ = some (.bool xu2) := hB.cell 8
    have yy9 : wr.cell? ⟨q5, 9, none⟩ = some (.bool yv2) := hB.cell 9
    have yy10 : wr.cell? ⟨q5, 10, none⟩ = some (.string mm2) := hB.cell 10
    have yy11 : wr.cell? ⟨q5, 11, none⟩ = some (.slice bw2 ow2 dw2) := hB.cell 11
    have yy12 : wr.cell? ⟨q5, 12, none⟩ = some (.slice br2 er2 dr2) := hB.cell 12
    have yy13 : wr.cell? ⟨q5, 13, none⟩ = some (.slice bk2 ek2 dk2) := hB.cell 13
    obtain ⟨K, hrow, hat⟩ := hI.out.row.row
    obtain ⟨a, c, rfl⟩ := ownsRow_slice hrow
    obtain ⟨mb, hmb⟩ : ∃ v, (M (R st0).2).1 = v := ⟨_, rfl⟩
    rw [hmb] at hm
    have hln := hI.out.ln
    obtain ⟨n, hn⟩ : ∃ n, xs.length = n := ⟨_, rfl⟩
    have hnH := Lib.hid hn
    rw [hn] at hln ⊢
    have hBH := Lib.hid hB
    clear hrow hat hn hB
    cases mb
    · have hs2 := Lib.hid (show ser s R (fun _ => M) st = (xs, (M (R st0).2).2) by
        rw [hser.out]
        unfold serM
        rw [hmb]
        simp)
      clear hmb
      go_wp2_with (go_at_fn kM; refine hm.out.mono ?_; rintro e w2 ⟨rfl, hA2, hF2⟩; have hA2H := Lib.hid hA2; have hF2H := Lib.hid hF2; clear hA2 hF2)
      go_ret
      obtain ⟨hdn, hge⟩ := (hI.out.row.keep hF2H.out (by exact hlt)).done
      unfold RowAn
      rw [hs2.out]
      rw [hnH.out] at hdn ⊢
      exact ⟨a, c, _, rfl, hdn, fun g hg => by rw [hnH.out] at hge; exact hge g hg, hA2H.out, hI.out.fb.trans hF2H.out⟩
    · have hd2 := hdH.out st0 hI.out.ok0 hmb
      have hp2 := hPH.out st0 hI.out.ok0
      have hj2 := hJH.out st0 hI.out.ok0 hI.out.j0
      have hse2 := Lib.hid (show serM (s := s) R (fun _ => M) (R st0).1 (R st0).2 = ser s R (fun _ => M) (M (R st0).2).2 by unfold serM; rw [hmb]; rfl)
      obtain ⟨st2, hst2⟩ : ∃ v, (M (R st0).2).2 = v := ⟨_, rfl⟩
      rw [hst2] at hm hd2 hp2 hse2 hj2
      have hser2 := ser_is R (fun _ => M) hPH.out hdH.out hp2
      have hr2 := Lib.hid (fun W hc hp => hRH.out W st2 hc hj2 hp)
      have hser2H := Lib.hid hser2
      clear hmb hst2 hser2
      have hd2H := Lib.hid hd2
      have hp2H := Lib.hid hp2
      have hj2H := Lib.hid hj2
      have f0 := hBH.out.frozen 0
      have f1 := hBH.out.frozen 1
      have f2 := hBH.out.frozen 2
      have f3 := hBH.out.frozen 3
      have f4 := hBH.out.frozen 4
      have f5 := hBH.out.frozen 5
      have f6 := hBH.out.frozen 6
      have f7 := hBH.out.frozen 7
      have f8 := hBH.out.frozen 8
      have f9 := hBH.out.frozen 9
      have f10 := hBH.out.frozen 10
      have f11 := hBH.out.frozen 11
      have f12 := hBH.out.frozen 12
      have f13 := hBH.out.frozen 13
      have hq5b : q5 ≠ b := by omega
      have hq516 : 8 ≤ q5 := by have := hH.out.b16; omega
      clear hd2 hp2 hj2
      go_upto_region 4 with (go_at_fn kM; refine hm.out.mono ?_; rintro e w2 ⟨rfl, hA2, hF2⟩; have hA2H := Lib.hid hA2; have hF2H := Lib.hid hF2; clear hA2 hF2)
      have hr3 := Lib.hid (hr2.out w2 (hCIH.out _ _ hI.out.ci hF2H.out) hA2H.out)
      have hB2 := Lib.hid (hF2H.out.blk hBH.out hq5b)
      go_upto_region 5 with (go_at_fn kR; refine hr3.out.mono ?_; rintro e w3 ⟨k3, x3, y3, nm3, aw3, nw3, cw3, ar3, nr3, cr3, ak3, nk3, ck3, ki3, xu3, yv3, mm3, bw3, ow3, dw3, br3, er3, dr3, bk3, ek3, dk3, T3, rfl, hN3, hT3, hA3, hF3⟩; have hN3H := Lib.hid hN3; have hT3H := Lib.hid hT3; have hA3H := Lib.hid hA3; have hF3H := Lib.hid hF3; have hB3 := Lib.hid (hF3.blk hB2.out hq5b); have k0_ : w3.cell? ⟨q5, 0, none⟩ = some (.int .i64 k2) := hB3.out.cell 0; have k1_ : w3.cell? ⟨q5, 1, none⟩ = some (.bool x2) := hB3.out.cell 1; have k2_ : w3.cell? ⟨q5, 2, none⟩ = some (.bool y2) := hB3.out.cell 2; have k3_ : w3.cell? ⟨q5, 3, none⟩ = some (.string nm2) := hB3.out.cell 3; have k4_ : w3.cell? ⟨q5, 4, none⟩ = some (.slice aw2 nw2 cw2) := hB3.out.cell 4; have k5_ : w3.cell? ⟨q5, 5, none⟩ = some (.slice ar2 nr2 cr2) := hB3.out.cell 5; have k6_ : w3.cell? ⟨q5, 6, none⟩ = some (.slice ak2 nk2 ck2) := hB3.out.cell 6; have k7_ : w3.cell? ⟨q5, 7, none⟩ = some (.int .i64 ki2) := hB3.out.cell 7; have k8_ : w3.cell? ⟨q5, 8, none⟩ = some (.bool xu2) := hB3.out.cell 8; have k9_ : w3.cell? ⟨q5, 9, none⟩ = some (.bool yv2) := hB3.out.cell 9; have k10_ : w3.cell? ⟨q5, 10, none⟩ = some (.string mm2) := hB3.out.cell 10; have k11_ : w3.cell? ⟨q5, 11, none⟩ = some (.slice bw2 ow2 dw2) := hB3.out.cell 11; have k12_ : w3.cell? ⟨q5, 12, none⟩ = some (.slice br2 er2 dr2) := hB3.out.cell 12; have k13_ : w3.cell? ⟨q5, 13, none⟩ = some (.slice bk2 ek2 dk2) := hB3.out.cell 13; have g0 := hB3.out.frozen 0; have g1 := hB3.out.frozen 1; have g2 := hB3.out.frozen 2; have g3 := hB3.out.frozen 3; have g4 := hB3.out.frozen 4; have g5 := hB3.out.frozen 5; have g6 := hB3.out.frozen 6; have g7 := hB3.out.frozen 7; have g8 := hB3.out.frozen 8; have g9 := hB3.out.frozen 9; have g10 := hB3.out.frozen 10; have g11 := hB3.out.frozen 11; have g12 := hB3.out.frozen 12; have g13 := hB3.out.frozen 13; clear hN3 hT3 hA3 hF3)
      have hrow3 := hI.out.row.keep (hF2H.out.trans hF3H.out) hlt
      have hfb3 := hI.out.fb.trans (hF2H.out.trans hF3H.out)
      have hT3q : ¬ T3 q5 := fun e => by have := (hT3H.out _ e).1; have := hB2.out.lt; omega
      have hpf4 := hA3H.out.put14 hB3.out (by decide) hq5b hq516 (.int .i64 k3) (.bool x3) (.bool y3) (.string nm3) (.slice aw3 nw3 cw3) (.slice ar3 nr3 cr3) (.slice ak3 nk3 ck3) (.int .i64 ki3) (.bool xu3) (.bool yv3) (.string mm3) (.slice bw3 ow3 dw3) (.slice br3 er3 dr3) (.slice bk3 ek3 dk3)
      have hfb4 := put14_fb hfb3 hw1s (.int .i64 k3) (.bool x3) (.bool y3) (.string nm3) (.slice aw3 nw3 cw3) (.slice ar3 nr3 cr3) (.slice ak3 nk3 ck3) (.int .i64 ki3) (.bool xu3) (.bool yv3) (.string mm3) (.slice bw3 ow3 dw3) (.slice br3 er3 dr3) (.slice bk3 ek3 dk3)
      have hB4 : Blk (put14 w3 q5 (.int .i64 k3) (.bool x3) (.bool y3) (.string nm3) (.slice aw3 nw3 cw3) (.slice ar3 nr3 cr3) (.slice ak3 nk3 ck3) (.int .i64 ki3) (.bool xu3) (.bool yv3) (.string mm3) (.slice bw3 ow3 dw3) (.slice br3 er3 dr3) (.slice bk3 ek3 dk3)) q5 145 #[.int .i64 k3, .bool x3, .bool y3, .string nm3, .slice aw3 nw3 cw3, .slice ar3 nr3 cr3, .slice ak3 nk3 ck3, .int .i64 ki3, .bool xu3, .bool yv3, .string mm3, .slice bw3 ow3 dw3, .slice br3 er3 dr3, .slice bk3 ek3 dk3] := put14_blk hB3.out _ _ _ _ _ _ _ _ _ _ _ _ _ _
      have hN4 : Pr (put14 w3 q5 (.int .i64 k3) (.bool x3) (.bool y3) (.string nm3) (.slice aw3 nw3 cw3) (.slice ar3 nr3 cr3) (.slice ak3 nk3 ck3) (.int .i64 ki3) (.bool xu3) (.bool yv3) (.string mm3) (.slice bw3 ow3 dw3) (.slice br3 er3 dr3) (.slice bk3 ek3 dk3)) T3 [.int .i64 k3, .bool x3, .bool y3, .string nm3, .slice aw3 nw3 cw3, .slice ar3 nr3 cr3, .slice ak3 nk3 ck3] [.int .i64 ki3, .bool xu3, .bool yv3, .string mm3, .slice bw3 ow3 dw3, .slice br3 er3 dr3, .slice bk3 ek3 dk3] (R st2).1 := hN3H.out.keep (fun g hg => put14_far _ _ _ _ _ _ _ _ _ _ _ _ _ _ _ _ (fun e => hT3q (e ▸ hg))) (fun _ h => h)
      have hs4 : (put14 w3 q5 (.int .i64 k3) (.bool x3) (.bool y3) (.string nm3) (.slice aw3 nw3 cw3) (.slice ar3 nr3 cr3) (.slice ak3 nk3 ck3) (.int .i64 ki3) (.bool xu3) (.bool yv3) (.string mm3) (.slice bw3 ow3 dw3) (.slice br3 er3 dr3) (.slice bk3 ek3 dk3)).heap.size = w3.heap.size := put14_size _ _ _ _ _ _ _ _ _ _ _ _ _ _ _ _
      have hrow4 := hrow3.same (w' := put14 w3 q5 (.int .i64 k3) (.bool x3) (.bool y3) (.string nm3) (.slice aw3 nw3 cw3) (.slice ar3 nr3 cr3) (.slice ak3 nk3 ck3) (.int .i64 ki3) (.bool xu3) (.bool yv3) (.string mm3) (.slice bw3 ow3 dw3) (.slice br3 er3 dr3) (.slice bk3 ek3 dk3)) (Nat.le_of_eq (put14_size _ _ _ _ _ _ _ _ _ _ _ _ _ _ _ _).symm) (fun g hg hc => put14_far _ _ _ _ _ _ _ _ _ _ _ _ _ _ _ _ (fun e => by
        subst e
        rcases hc with hc | hc
        · exact hI.out.offT hc
        · exact hI.out.off hc))
      obtain ⟨W4, hW4⟩ : ∃ W, put14 w3 q5 (.int .i64 k3) (.bool x3) (.bool y3) (.string nm3) (.slice aw3 nw3 cw3) (.slice ar3 nr3 cr3) (.slice ak3 nk3 ck3) (.int .i64 ki3) (.bool xu3) (.bool yv3) (.string mm3) (.slice bw3 ow3 dw3) (.slice br3 er3 dr3) (.slice bk3 ek3 dk3) = W := ⟨_, rfl⟩
      rw [hW4] at hpf4 hfb4 hB4 hrow4 hN4 hs4
      unfold put14 put7 at hW4
      rw [hW4]
      clear hW4 f0 f1 f2 f3 f4 f5 f6 f7 f8 f9 f10 f11 f12 f13 g0 g1 g2 g3 g4 g5 g6 g7 g8 g9 g10 g11 g12 g13 k0_ k1_ k2_ k3_ k4_ k5_ k6_ k7_ k8_ k9_ k10_ k11_ k12_ k13_ yy0 yy1 yy2 yy3 yy4 yy5 yy6 yy7 yy8 yy9 yy10 yy11 yy12 yy13 hrow3
      have yy0 : W4.cell? ⟨q5, 0, none⟩ = some (.int .i64 k3) := hB4.cell 0
      have yy1 : W4.cell? ⟨q5, 1, none⟩ = some (.bool x3) := hB4.cell 1
      have yy2 : W4.cell? ⟨q5, 2, none⟩ = some (.bool y3) := hB4.cell 2
      have yy3 : W4.cell? ⟨q5, 3, none⟩ = some (.string nm3) := hB4.cell 3
      have yy4 : W4.cell? ⟨q5, 4, none⟩ = some (.slice aw3 nw3 cw3) := hB4.cell 4
      have yy5 : W4.cell? ⟨q5, 5, none⟩ = some (.slice ar3 nr3 cr3) := hB4.cell 5
      have yy6 : W4.cell? ⟨q5, 6, none⟩ = some (.slice ak3 nk3 ck3) := hB4.cell 6
      have yy7 : W4.cell? ⟨q5, 7, none⟩ = some (.int .i64 ki3) := hB4.cell 7
      have yy8 : W4.cell? ⟨q5, 8, none⟩ = some (.bool xu3) := hB4.cell 8
      have yy9 : W4.cell? ⟨q5, 9, none⟩ = some (.bool yv3) := hB4.cell 9
      have yy10 : W4.cell? ⟨q5, 10, none⟩ = some (.string mm3) := hB4.cell 10
      have yy11 : W4.cell? ⟨q5, 11, none⟩ = some (.slice bw3 ow3 dw3) := hB4.cell 11
      have yy12 : W4.cell? ⟨q5, 12, none⟩ = some (.slice br3 er3 dr3) := hB4.cell 12
      have yy13 : W4.cell? ⟨q5, 13, none⟩ = some (.slice bk3 ek3 dk3) := hB4.cell 13
      have hb5 : Below W4.heap.size W4 (W4.alloc (.cells #[.int .i64 k3, .bool x3, .bool y3, .string nm3, .slice aw3 nw3 cw3, .slice ar3 nr3 cr3, .slice ak3 nk3 ck3, .int .i64 ki3, .bool xu3, .bool yv3, .string mm3, .slice bw3 ow3 dw3, .slice br3 er3 dr3, .slice bk3 ek3 dk3] 145)) := (Below.refl _ _).alloc (Nat.le_refl _) _
      have hrow5 := hrow4.same hb5.size (fun g hg _ => hb5.block g hg)
      have hN5 := Lib.hid (hN4.keep (fun g hg => hb5.block g (by rw [hs4]; exact (hT3H.out g hg).2)) (fun _ h => h))
      have hs5 : (W4.alloc (.cells #[.int .i64 k3, .bool x3, .bool y3, .string nm3, .slice aw3 nw3 cw3, .slice ar3 nr3 cr3, .slice ak3 nk3 ck3, .int .i64 ki3, .bool xu3, .bool yv3, .string mm3, .slice bw3 ow3 dw3, .slice br3 er3 dr3, .slice bk3 ek3 dk3] 145)).heap.size = W4.heap.size + 1 := World.size_alloc _ _
      have hT5 := Lib.hid (fun g (hg : T3 g) => (show w.heap.size ≤ g ∧ g < (W4.alloc (.cells #[.int .i64 k3, .bool x3, .bool y3, .string nm3, .slice aw3 nw3 cw3, .slice ar3 nr3 cr3, .slice ak3 nk3 ck3, .int .i64 ki3, .bool xu3, .bool yv3, .string mm3, .slice bw3 ow3 dw3, .slice br3 er3 dr3, .slice bk3 ek3 dk3] 145)).heap.size ∧ w2.heap.size ≤ g from ⟨Nat.le_trans (hI.out.fb.trans hF2H.out).size (hT3H.out g hg).1, by have := (hT3H.out g hg).2; omega, (hT3H.out g hg).1⟩))
      have hfb5 := Lib.hid (hfb4.trans (Fb.of_below hb5))
      have hpf5 := Lib.hid (hpf4.below hb5)
      have hB5 := Lib.hid (hB4.alloc (.cells #[.int .i64 k3, .bool x3, .bool y3, .string nm3, .slice aw3 nw3 cw3, .slice ar3 nr3 cr3, .slice ak3 nk3 ck3, .int .i64 ki3, .bool xu3, .bool yv3, .string mm3, .slice bw3 ow3 dw3, .slice br3 er3 dr3, .slice bk3 ek3 dk3] 145))
      have hsz5 := Lib.hid hfb4.size
      have hB5q := hB4.lt
      have hrow5H := Lib.hid hrow5
      obtain ⟨K5, hown5, hat5⟩ := hrow5.row
      have hrl := Lib.hid (fun g (hg : (Value.slice a xs.length c).ownBlock = some g) => (show g < w2.heap.size from row_lt (hI.out.row.keep hF2H.out hlt).row.choose_spec.1 hg))
      rw [hnH.out] at hown5 hrl
      have hown5H := Lib.hid hown5
      have hat5H := Lib.hid hat5
      clear hrow5 hown5 hat5 hb5 hfb4 hpf4 hB4 hrow4 hfb3 hs5 hN4 hs4
      go_wp2_with (at_builtin; refine wpList_app rfl _ _ 143 rfl w.heap.size 145 i0 _ 14 208 Tryz.underlying143 hi0H.out hz0 hz1 hz2 rfl (by decide) (.slice a n c) n (flat K5 n) (by rfl) hown5H.out (some ⟨W4.heap.size, 0, none⟩) 1 1 [.int .i64 k3, .bool x3, .bool y3, .string nm3, .slice aw3 nw3 cw3, .slice ar3 nr3 cr3, .slice ak3 nk3 ck3, .int .i64 ki3, .bool xu3, .bool yv3, .string mm3, .slice bw3 ow3 dw3, .slice br3 er3 dr3, .slice bk3 ek3 dk3] (by rfl) (by rfl) (src_blk (Blk.new W4 _ _)) (by intro u hu; simp at hu; rcases hu with rfl | rfl | rfl | rfl | rfl | rfl | rfl | rfl | rfl | rfl | rfl | rfl | rfl | rfl <;> rfl) (by omega) (by omega) (Nat.le_trans hsz5.out (by rw [World.size_alloc]; exact Nat.le_succ _)) ?_; intro a6 c6 w6 hown6 hg6 ho6)
      have hnew := hrow5H.out.app (Tx := T3) (x := (R st2).1) (a' := a6) (c' := c6) (m := n + 1) (w' := w6) (cx := [.int .i64 k3, .bool x3, .bool y3, .string nm3, .slice aw3 nw3 cw3, .slice ar3 nr3 cr3, .slice ak3 nk3 ck3, .int .i64 ki3, .bool xu3, .bool yv3, .string mm3, .slice bw3 ow3 dw3, .slice br3 er3 dr3, .slice bk3 ek3 dk3]) ⟨K5, by rw [hnH.out]; exact hown6, hat5H.out⟩ (by rw [hnH.out]) ⟨_, _, hN5.out.a, hN5.out.b, rfl⟩ (fun g hg h => by rw [hnH.out] at hg; have := hrl.out g hg; have := (hT5.out g h).2.2; omega) (fun g h => ⟨(hT5.out g h).1, (hT5.out g h).2.1⟩) (by rw [hnH.out]; exact hg6) (by rw [hnH.out]; exact ho6)
      have hq5s : q5 < W4.heap.size := hB5q
      go_roundg (rem s st2)
      case measure => rw [hg]; exact hd2H.out
      case rel =>
        have hoff : (Value.slice a n c).ownBlock ≠ some q5 := by rw [← hnH.out]; exact hI.out.off
        refine ⟨st2, _, xs ++ [(R st2).1], rfl, Lib.hid ⟨hpf5.out.grown hown5H.out (by decide) hlt hg6, hp2H.out, hj2H.out, hCIH.out _ _ hcH.out (hfb5.out.grown hown5H.out (Nat.le_refl _) hg6), hfb5.out.grown hown5H.out (Nat.le_refl _) hg6, ⟨k3, x3, y3, nm3, aw3, nw3, cw3, ar3, nr3, cr3, ak3, nk3, ck3, ki3, xu3, yv3, mm3, bw3, ow3, dw3, br3, er3, dr3, bk3, ek3, dk3, (hg6.block q5 (by rw [World.size_alloc]; omega) (fun e => hoff e.symm)).trans hB5.out⟩, hnew, fun e => ?_, fun h => h.elim hI.out.offT hT3q, ?_, ?_⟩⟩
        · rcases ho6 with h6 | h6
          · exact hoff (h6.symm.trans e)
          · have h7 := h6.symm.trans e
            rw [World.size_alloc] at h7
            injection h7 with h7
            omega
        · rw [hser.out, hse2.out, hser2H.out]
          simp
        · have := hd2H.out
          rw [List.length_append, hnH.out]
          show n + 1 + rem s st2 ≤ 140001
          omega
end
end Go.Proofs.YtnhbcmhinhncfaaGreatDoor
/- The branches of an if. Conditions: the parser lies as stated; a body's contract is handed in. -/
namespace Go.Proofs.YtnhbcmhinhncfaaGreatDoor
open Go.RowKit Go.Shelf Go.PlainAid
set_option linter.unusedVariables false
set_option linter.unusedSimpArgs false
attribute [local go_sem] Oper.semAt_some
theorem enters_ch1 : Enters Tryz.prog 117 := enters_of Tryz.func117 (by kernel_rfl) rfl
theorem enters_ch2 : Enters Tryz.prog 118 := enters_of Tryz.func118 (by kernel_rfl) rfl
section
variable {b : Nat} {s : ByteArray} {w : World} {st : PS} {B : Int → PS → Nd × PS} {d : Int}
set_option maxRecDepth 100000 in
set_option maxHeartbeats 4000000 in
theorem choice1_f {q0 q1 : Nat} (hC : BodyC s B d) (hb0 : Bx b q0 w) (hq0 : q0 ≠ b) (hb1 : Bi d q1 w) (hq1 : q1 ≠ b) (h : PF b s w st) : Calls Tryz.prog 117 #[ptr q0, ptr q1] w (PrAn b s w (brP s B d st).1 (brP s B d st).2) := by
  obtain ⟨q, hq⟩ : ∃ q, w.heap.size = q := ⟨_, rfl⟩
  have hlt := h.lt
  have h16 := h.b16
  have hqb : q ≠ b := by omega
  have hq16 : 8 ≤ q := by omega
  obtain ⟨W, hW⟩ : ∃ W, w.alloc (.cells N14 145) = W := ⟨_, rfl⟩
  have hbl : Below w.heap.size w W := by rw [← hW]; exact (Below.refl _ _).alloc (Nat.le_refl _) _
  have hZ := Lib.hid (show Blk W q 145 N14 by rw [← hW, ← hq]; exact Blk.new _ _ _)
  have hX := Lib.hid (show Bx b q0 W by rw [← hW]; exact hb0.alloc _)
  have hY := Lib.hid (show Bi d q1 W by rw [← hW]; exact hb1.alloc _)
  have e0 : W.cell? ⟨q0, 0, none⟩ = some (ptr b) := hX.out.cell 0
  have e1 : W.cell? ⟨q1, 0, none⟩ = some (.int .i64 d) := hY.out.cell 0
  have hF1 := Lib.hid (Fb.of_below (b := b) hbl)
  have hc1 := Lib.hid (hC b W st (h.below hbl))
  have hr := Lib.hid (show brP s B d st = (((B d st).1, (B d (needP s (hasW s [116, 104, 101, 110] (B d st).2) (B d st).2)).1), (B d (needP s (hasW s [116, 104, 101, 110] (B d st).2) (B d st).2)).2) from rfl)
  obtain ⟨A1, hA1⟩ : ∃ A, B d st = A := ⟨_, rfl⟩
  rw [hA1] at hc1 hr
  obtain ⟨n1, st1⟩ := A1
  dsimp only at hr hc1
  have hn := Lib.hid (fun W (hp : PF b s W st1) => needWord_f hp ⟨#[116, 104, 101, 110]⟩)
  rw [show (⟨#[116, 104, 101, 110]⟩ : ByteArray).toList = [116, 104, 101, 110] by kernel_rfl] at hn
  obtain ⟨st2, hst2⟩ : ∃ x, needP s (hasW s [116, 104, 101, 110] st1) st1 = x := ⟨_, rfl⟩
  rw [hst2] at hn hr
  have hc2 := Lib.hid (fun W hp => hC b W st2 hp)
  obtain ⟨A2, hA2⟩ : ∃ A, B d st2 = A := ⟨_, rfl⟩
  rw [hA2] at hc2 hr
  obtain ⟨n2, st3⟩ := A2
  dsimp only at hr hc2
  rw [hr.out]
  have hWH := Lib.hid hW
  have hb0H := Lib.hid hb0
  have hb1H := Lib.hid hb1
  have hqH := Lib.hid hq
  clear hW hbl h hq hA1 hA2 hC hb0 hb1 hr hst2
  go_enter Tryz.func117, Tryz.ntmps117
  go_upto_region 1 with fail
  rw [hWH.out, hqH.out]
  go_upto_region 2 with (go_at_call 98; refine hc1.out.mono ?_; rintro e w3 ⟨k, x, y, nm, aw, nw, cw, ar, nr, cr, ak, nk, ck, T, rfl, hN, hT, hA3, hF3⟩; have hN3 := Lib.hid hN; have hT3 := Lib.hid hT; have hA3H := Lib.hid hA3; have hF3H := Lib.hid (hF1.out.trans hF3); have hZ3 := Lib.hid (hF3.blk hZ.out hqb); have hX3 := Lib.hid (hF3.blk hX.out hq0); have hY3 := Lib.hid (hF3.blk hY.out hq1); clear hN hT hA3 hF3)
  obtain ⟨q5, hq5⟩ : ∃ q, w3.heap.size = q := ⟨_, rfl⟩
  obtain ⟨W4, hW4⟩ : ∃ W, w3.alloc (.cells #[.int .i64 k, .bool x, .bool y, .string nm, .slice aw nw cw, .slice ar nr cr, .slice ak nk ck] 30) = W := ⟨_, rfl⟩
  have hb4 : Below w3.heap.size w3 W4 := by rw [← hW4]; exact (Below.refl _ _).alloc (Nat.le_refl _) _
  have hE4 := Lib.hid (show Blk W4 q5 30 #[.int .i64 k, .bool x, .bool y, .string nm, .slice aw nw cw, .slice ar nr cr, .slice ak nk ck] by rw [← hW4, ← hq5]; exact Blk.new _ _ _)
  rw [hW4, hq5]
  have hHd4 := Lib.hid ((show Hd b w n1 k x y nm aw nw cw ar nr cr ak nk ck T w3 from ⟨hN3.out, fun g hg => ⟨Nat.le_trans hF1.out.size (hT3.out g hg).1, (hT3.out g hg).2⟩⟩).keep (Fb.of_below hb4) hlt)
  have hT4 := Lib.hid (show ¬ T q from fun e => by have := (hT3.out q e).1; have := hZ.out.lt; omega)
  have hA4 := Lib.hid (hA3H.out.below hb4)
  have hF4 := Lib.hid (hF3H.out.trans (Fb.of_below hb4))
  have hZ4 := Lib.hid ((Fb.of_below (b := b) hb4).blk hZ3.out hqb)
  have hX4 := Lib.hid ((Fb.of_below (b := b) hb4).blk hX3.out hq0)
  have hY4 := Lib.hid ((Fb.of_below (b := b) hb4).blk hY3.out hq1)
  have hq5b : q5 ≠ b := by have := hF3H.out.size; omega
  have hq5wH := Lib.hid (show q < q5 by have := hZ3.out.lt; omega)
  have x0 : W4.cell? ⟨q0, 0, none⟩ = some (ptr b) := hX4.out.cell 0
  have hnc := Lib.hid (hn.out W4 hA4.out)
  clear hb4 hW4 hq5 hN3 hT3 hA3H hF3H hZ3 hX3 hY3 hc1 hn
  go_upto_region 3 with (go_at_call 101; refine hnc.out.mono ?_; rintro e w5 ⟨rfl, hA5, hF5⟩; have hA5H := Lib.hid hA5; have hF5H := Lib.hid hF5; clear hA5 hF5)
  have hZ5 := Lib.hid (show Blk w5.drew q 145 N14 from hF5H.out.blk hZ4.out hqb)
  have hX5 := Lib.hid (show Bx b q0 w5.drew from hF5H.out.blk hX4.out hq0)
  have hY5 := Lib.hid (show Bi d q1 w5.drew from hF5H.out.blk hY4.out hq1)
  have hE5 := Lib.hid (show Blk w5.drew q5 30 _ from hF5H.out.blk hE4.out hq5b)
  have hcl := Lib.hid (hc2.out w5.drew (hA5H.out.below (below_drew (Below.refl _ _) 1)))
  have y0 : w5.drew.cell? ⟨q0, 0, none⟩ = some (ptr b) := hX5.out.cell 0
  have y1 : w5.drew.cell? ⟨q1, 0, none⟩ = some (.int .i64 d) := hY5.out.cell 0
  have c0 : w5.drew.cell? ⟨q5, 0, none⟩ = some (.int .i64 k) := hE5.out.cell 0
  have c1 : w5.drew.cell? ⟨q5, 1, none⟩ = some (.bool x) := hE5.out.cell 1
  have c2 : w5.drew.cell? ⟨q5, 2, none⟩ = some (.bool y) := hE5.out.cell 2
  have c3 : w5.drew.cell? ⟨q5, 3, none⟩ = some (.string nm) := hE5.out.cell 3
  have c4 : w5.drew.cell? ⟨q5, 4, none⟩ = some (.slice aw nw cw) := hE5.out.cell 4
  have c5 : w5.drew.cell? ⟨q5, 5, none⟩ = some (.slice ar nr cr) := hE5.out.cell 5
  have c6 : w5.drew.cell? ⟨q5, 6, none⟩ = some (.slice ak nk ck) := hE5.out.cell 6
  have hq0q : ¬ q0 = q := fun e => by have := hb0H.out.lt; have := hqH.out; omega
  have hq1q : ¬ q1 = q := fun e => by have := hb1H.out.lt; have := hqH.out; omega
  have hq5q : ¬ q5 = q := fun e => by have := hq5wH.out; have := hZ.out.lt; have := hqH.out; omega
  have hq0q' : ¬ q = q0 := fun e => hq0q e.symm
  have hq1q' : ¬ q = q1 := fun e => hq1q e.symm
  have hq5q' : ¬ q = q5 := fun e => hq5q e.symm
  clear hc2 x0 e0 e1
  go_region_held3 (fun Z => Z.cell? ⟨q0, 0, none⟩ = some (ptr b) ∧ Z.cell? ⟨q1, 0, none⟩ = some (.int .i64 d) ∧ Z.cell? ⟨q5, 0, none⟩ = some (.int .i64 k) ∧ Z.cell? ⟨q5, 1, none⟩ = some (.bool x) ∧ Z.cell? ⟨q5, 2, none⟩ = some (.bool y) ∧ Z.cell? ⟨q5, 3, none⟩ = some (.string nm) ∧ Z.cell? ⟨q5, 4, none⟩ = some (.slice aw nw cw) ∧ Z.cell? ⟨q5, 5, none⟩ = some (.slice ar nr cr) ∧ Z.cell? ⟨q5, 6, none⟩ = some (.slice ak nk ck)) (first | with_reducible exact ⟨y0, y1, c0, c1, c2, c3, c4, c5, c6⟩ | with_reducible exact ⟨u0, u1, v0, v1, v2, v3, v4, v5, v6⟩ | go_keep | fail) ((first
    | (go_at_call 98; refine hcl.out.mono ?_; rintro e w7 ⟨k2, x2, y2, nm2, aw2, nw2, cw2, ar2, nr2, cr2, ak2, nk2, ck2, T2, rfl, hN, hT, hA7, hF7⟩; have hN7 := Lib.hid hN; have hT7 := Lib.hid hT; have hA7H := Lib.hid hA7; have hF7H := Lib.hid hF7; have hB8 := Lib.hid (hF7.blk hE5.out hq5b); have hX8 := Lib.hid (hF7.blk hX5.out hq0); have hY8 := Lib.hid (hF7.blk hY5.out hq1); have hZ8 := Lib.hid (hF7.blk hZ5.out hqb); clear hN hT hA7 hF7; have u0 : w7.cell? ⟨q0, 0, none⟩ = some (ptr b) := hX8.out.cell 0; have u1 : w7.cell? ⟨q1, 0, none⟩ = some (.int .i64 d) := hY8.out.cell 0; have v0 : w7.cell? ⟨q5, 0, none⟩ = some (.int .i64 k) := hB8.out.cell 0; have v1 : w7.cell? ⟨q5, 1, none⟩ = some (.bool x) := hB8.out.cell 1; have v2 : w7.cell? ⟨q5, 2, none⟩ = some (.bool y) := hB8.out.cell 2; have v3 : w7.cell? ⟨q5, 3, none⟩ = some (.string nm) := hB8.out.cell 3; have v4 : w7.cell? ⟨q5, 4, none⟩ = some (.slice aw nw cw) := hB8.out.cell 4; have v5 : w7.cell? ⟨q5, 5, none⟩ = some (.slice ar nr cr) := hB8.out.cell 5; have v6 : w7.cell? ⟨q5, 6, none⟩ = some (.slice ak nk ck) := hB8.out.cell 6; have z0 := hZ8.out.cell 0; have z1 := hZ8.out.cell 1; have z2 := hZ8.out.cell 2; have z3 := hZ8.out.cell 3; have z4 := hZ8.out.cell 4; have z5 := hZ8.out.cell 5; have z6 := hZ8.out.cell 6; have z7 := hZ8.out.cell 7; have z8 := hZ8.out.cell 8; have z9 := hZ8.out.cell 9; have z10 := hZ8.out.cell 10; have z11 := hZ8.out.cell 11; have z12 := hZ8.out.cell 12; have z13 := hZ8.out.cell 13; have g0 := hZ8.out.frozen 0; have g1 := hZ8.out.frozen 1; have g2 := hZ8.out.frozen 2; have g3 := hZ8.out.frozen 3; have g4 := hZ8.out.frozen 4; have g5 := hZ8.out.frozen 5; have g6 := hZ8.out.frozen 6; have g7 := hZ8.out.frozen 7; have g8 := hZ8.out.frozen 8; have g9 := hZ8.out.frozen 9; have g10 := hZ8.out.frozen 10; have g11 := hZ8.out.frozen 11; have g12 := hZ8.out.frozen 12; have g13 := hZ8.out.frozen 13)
    | fail))
  go_wp2_with fail
  refine bodyPost_ret (results_cell_row rfl _ _ q 145 #[.int .i64 k, .bool x, .bool y, .string nm, .slice aw nw cw, .slice ar nr cr, .slice ak nk ck, .int .i64 k2, .bool x2, .bool y2, .string nm2, .slice aw2 nw2 cw2, .slice ar2 nr2 cr2, .slice ak2 nk2 ck2] (0, 0) _ rfl (put14_blk hZ8.out _ _ _ _ _ _ _ _ _ _ _ _ _ _) Tryz.underlying145 rfl (by kernel_rfl)) rfl ?_
  have hF8 := (hF4.out.trans hF5H.out).trans (((Fb.refl b w5).drewN 1).trans hF7H.out)
  have hH8 := ((hHd4.out.keep hF5H.out hlt).keep (((Fb.refl b w5).drewN 1).trans hF7H.out) hlt)
  have hT2 := Lib.hid (fun g (hg : T2 g) => (show w.heap.size ≤ g ∧ g < w7.heap.size ∧ g ≠ q from ⟨Nat.le_trans (hF4.out.trans hF5H.out).size (hT7.out g hg).1, (hT7.out g hg).2, fun e => by have h1 := (hT7.out g hg).1; have h2 := hZ5.out.lt; omega⟩))
  exact ⟨k, x, y, nm, aw, nw, cw, ar, nr, cr, ak, nk, ck, k2, x2, y2, nm2, aw2, nw2, cw2, ar2, nr2, cr2, ak2, nk2, ck2, fun g => T g ∨ T2 g, rfl,
    ⟨hH8.at_.keep (fun g hg => put14_far _ _ _ _ _ _ _ _ _ _ _ _ _ _ _ _ (fun e => hT4.out (e ▸ hg))) (fun _ => .inl), hN7.out.keep (fun g hg => put14_far _ _ _ _ _ _ _ _ _ _ _ _ _ _ _ _ (hT2.out g hg).2.2) (fun _ => .inr)⟩,
    fun g hg => ⟨hg.elim (fun h => (hH8.ge g h).1) (fun h => (hT2.out g h).1), by simp only [World.size_setCell]; exact hg.elim (fun h => (hH8.ge g h).2) (fun h => (hT2.out g h).2.1)⟩,
    hA7H.out.put14 hZ8.out (by decide) hqb hq16 _ _ _ _ _ _ _ _ _ _ _ _ _ _, put14_fb hF8 (Nat.le_of_eq hqH.out) _ _ _ _ _ _ _ _ _ _ _ _ _ _⟩
set_option maxRecDepth 100000 in
set_option maxHeartbeats 4000000 in
theorem choice2_f {q2 : Nat} (k : Int) (x y : Bool) (nm : ByteArray) (aw : Option Addr) (nw cw : Nat) (ar : Option Addr) (nr cr : Nat) (ak : Option Addr) (nk ck : Nat) (ki : Int) (xu yv : Bool) (mm : ByteArray) (bw : Option Addr) (ow dw : Nat) (br : Option Addr) (er dr : Nat) (bk : Option Addr) (ek dk : Nat) (hb2 : Bx b q2 w) (hq2 : q2 ≠ b) (h : PF b s w st) :
    Calls Tryz.prog 118 #[.agg #[.int .i64 k, .bool x, .bool y, .string nm, .slice aw nw cw, .slice ar nr cr, .slice ak nk ck, .int .i64 ki, .bool xu, .bool yv, .string mm, .slice bw ow dw, .slice br er dr, .slice bk ek dk], ptr q2] w (An b s w (.bool (hasW s [101, 108, 105, 102] st)) (tookP s 1 [101, 108, 105, 102] st)) := by
  obtain ⟨W, hW⟩ : ∃ W, w.alloc (.cells #[.int .i64 k, .bool x, .bool y, .string nm, .slice aw nw cw, .slice ar nr cr, .slice ak nk ck, .int .i64 ki, .bool xu, .bool yv, .string mm, .slice bw ow dw, .slice br er dr, .slice bk ek dk] 145) = W := ⟨_, rfl⟩
  have hb1 : Below w.heap.size w W := by rw [← hW]; exact (Below.refl _ _).alloc (Nat.le_refl _) _
  have hX := Lib.hid (show Bx b q2 W by rw [← hW]; exact hb2.alloc _)
  have hA1 := h.below hb1
  have hF1 := Lib.hid (Fb.of_below (b := b) hb1)
  have hc := tookWord_f hA1 ⟨#[101, 108, 105, 102]⟩
  rw [show (⟨#[101, 108, 105, 102]⟩ : ByteArray).toList = [101, 108, 105, 102] by kernel_rfl] at hc
  have hcH := Lib.hid hc
  have c0 : W.cell? ⟨q2, 0, none⟩ = some (ptr b) := hX.out.cell 0
  have hWH := Lib.hid hW
  clear hW hb1 h hb2 hA1 hc
  go_enter Tryz.func118, Tryz.ntmps118
  go_upto_region 1 with fail
  rw [hWH.out]
  go_wp2_with (go_at_call 100; refine hcH.out.mono ?_; rintro e w2 ⟨rfl, hA2, hF2⟩; have hA2H := Lib.hid hA2; have hF2H := Lib.hid hF2; clear hA2 hF2)
  go_ret
  refine ⟨rfl, ?_, hF1.out.trans hF2H.out⟩
  have h9 := hA2H.out
  unfold tookP
  unfold hasW at h9
  split
  · rename_i e
    rwa [if_pos e] at h9
  · rename_i e
    rw [if_neg e] at h9
    exact h9.fill
end
end Go.Proofs.YtnhbcmhinhncfaaGreatDoor
/- Appends to a tree's rows, at a step of a region too. No condition. -/
namespace Go.Proofs.YtnhbcmhinhncfaaGreatDoor
open Go.RowKit Go.Shelf Go.PlainAid
set_option linter.unusedVariables false
set_option linter.unusedSimpArgs false
attribute [local go_sem] Oper.semAt_some
theorem run_app4 {P : Program} (w : World) (base : Nat) (t ty e : TypeId) (i : TypeInfo) (z : Value) (size bytes : Nat) (ht : P.underlying t = some (.slice e)) (hi : P.info? e = some i) (hz : i.zero = some z)
    (hsize : i.size = size) (hby : i.bytes = bytes) (hzs : z.cells.size = size) (hsz : 0 < size)
    (v : Value) (n : Nat) (xs : List Value) (hown : w.ownsRow base e size v n xs) (A : Option Addr) (m c : Nat) (news : List Value) (hl : news.length = m * size) (hnews : Src w A news) (h1 : ∀ u ∈ news, u.oneCell' = true)
    (h63 : n + m ≤ 1000000) (hbytes : (n + m) * bytes ≤ 140737488355328) (hbase : base ≤ w.heap.size) :
    ∃ a' c' w', (Builtin.append_ #[t, t] ty #[v, .slice A m c]).run P w = .ok (.slice a' (n + m) c') w' ∧ w'.ownsRow base e size (.slice a' (n + m) c') (n + m) (xs ++ news) ∧ w.grownBy w' v.ownBlock ∧
      ((Value.slice a' (n + m) c').ownBlock = v.ownBlock ∨ (Value.slice a' (n + m) c').ownBlock = some w.heap.size) := by
  cases A with
  | some ad =>
    obtain ⟨v', w', hr, h2, h3, _, h5⟩ := run_append_own_at (P := P) w base t ty e i z size bytes ht hi hz hsize hby hzs hsz v n xs hown ad m c news hl (fun j u hj => by
      obtain ⟨ad', e', h⟩ := hnews j u hj
      obtain rfl : ad = ad' := Option.some.inj e'
      exact h) h1 (by unfold maxLen; omega) hbytes hbase
    obtain ⟨a', c', rfl⟩ := ownsRow_slice h2
    exact ⟨a', c', w', hr, h2, h3, h5⟩
  | none =>
    have hn : news = [] := by
      cases news with
      | nil => rfl
      | cons u l => obtain ⟨ad, e', _⟩ := hnews 0 u rfl; cases e'
    subst hn
    obtain rfl : m = 0 := by
      rcases Nat.eq_zero_or_pos m with h | h
      · exact h
      · have := Nat.mul_pos h hsz
        simp at hl
        omega
    obtain ⟨a', c', rfl⟩ := ownsRow_slice hown
    have hcap : n ≤ c' := by
      rcases hown.2 with ⟨e', rfl⟩ | ⟨g, cap, cur, e', _, _, hc, _⟩
      · omega
      · obtain ⟨_, rfl⟩ := by simpa using e'
        exact hc
    refine ⟨a', c', w, ?_, by simpa using hown, ⟨rfl, rfl, rfl, Nat.le_refl _, fun _ _ _ => rfl⟩, .inl rfl⟩
    have hiS : (sizeOf e).run P w = .ok size w := by simp [sizeOf, typeInfo, hi, hsize]
    cases a' <;> simp [Builtin.append_, run_underlying ht, hiS, Builtin.lenOf, Builtin.firstCells, hcap, storeCells]
theorem wp_app {P : Program} {o : Oper} {a : Act} {w : World} {K : Act → World → Prop} {Q : Exit → Act → World → Prop} (s x : Operand) (t : TypeId)
    (ho : o.op = .call { callee := .builtin .append, args := #[s, x], argTypes := #[t, t] })
    (base : Nat) (e : TypeId) (i : TypeInfo) (z : Value) (size bytes : Nat) (ht : P.underlying t = some (.slice e)) (hi : P.info? e = some i) (hz : i.zero = some z)
    (hsize : i.size = size) (hby : i.bytes = bytes) (hzs : z.cells.size = size) (hsz : 0 < size)
    (v : Value) (n : Nat) (xs : List Value) (hs : a.eval s = v) (hown : w.ownsRow base e size v n xs) (A : Option Addr) (m c : Nat) (news : List Value) (hx : a.eval x = .slice A m c) (hl : news.length = m * size) (hnews : Src w A news) (h1 : ∀ u ∈ news, u.oneCell' = true)
    (h63 : n + m ≤ 1000000) (hbytes : (n + m) * bytes ≤ 140737488355328) (hbase : base ≤ w.heap.size)
    (h : ∀ a' c' w', w'.ownsRow base e size (.slice a' (n + m) c') (n + m) (xs ++ news) → w.grownBy w' v.ownBlock → ((Value.slice a' (n + m) c').ownBlock = v.ownBlock ∨ (Value.slice a' (n + m) c').ownBlock = some w.heap.size) → K (a.put o.dst (.slice a' (n + m) c')) w') :
    Oper.wp P o a w K Q := by
  obtain ⟨a', c', w', hr, h2, h3, h4⟩ := run_app4 w base t o.type e i z size bytes ht hi hz hsize hby hzs hsz v n xs hown A m c news hl hnews h1 h63 hbytes hbase
  unfold Oper.wp execOp
  simp only [ho, resolve, invoke, builtin, Sem.run_bind, Sem.run_pure, Result.andThen_ok, List.map_toArray, List.map_cons, List.map_nil, hs, hx, hr]
  exact h _ _ _ h2 h3 h4
/-- At a plain region's list. -/
theorem wpList_app4 {P : Program} {ops : Array Oper} {rest : List Oper} {o : Oper} {a : Act} {w : World} {Q : Exit → Act → World → Prop} (hgd : o.guard = none) (s x : Operand) (t : TypeId)
    (ho : o.op = .call { callee := .builtin .append, args := #[s, x], argTypes := #[t, t] })
    (base : Nat) (e : TypeId) (i : TypeInfo) (z : Value) (size bytes : Nat) (ht : P.underlying t = some (.slice e)) (hi : P.info? e = some i) (hz : i.zero = some z)
    (hsize : i.size = size) (hby : i.bytes = bytes) (hzs : z.cells.size = size) (hsz : 0 < size)
    (v : Value) (n : Nat) (xs : List Value) (hs : a.eval s = v) (hown : w.ownsRow base e size v n xs) (A : Option Addr) (m c : Nat) (news : List Value) (hx : a.eval x = .slice A m c) (hl : news.length = m * size) (hnews : Src w A news) (h1 : ∀ u ∈ news, u.oneCell' = true)
    (h63 : n + m ≤ 1000000) (hbytes : (n + m) * bytes ≤ 140737488355328) (hbase : base ≤ w.heap.size)
    (h : ∀ a' c' w', w'.ownsRow base e size (.slice a' (n + m) c') (n + m) (xs ++ news) → w.grownBy w' v.ownBlock → ((Value.slice a' (n + m) c').ownBlock = v.ownBlock ∨ (Value.slice a' (n + m) c').ownBlock = some w.heap.size) → wpList P ops Q rest (a.put o.dst (.slice a' (n + m) c')) w') :
    wpList P ops Q (o :: rest) a w :=
  wpList_plain hgd fun K hK => wp_app s x t ho base e i z size bytes ht hi hz hsize hby hzs hsz v n xs hs hown A m c news hx hl hnews h1 h63 hbytes hbase (fun a' c' w' h2 h3 h4 => hK _ _ (h a' c' w' h2 h3 h4))
/-- At a step of a region that draws its order. -/
theorem step_app {P : Program} {ops : Array Oper} {o : Oper} {a : Act} {w : World} {K : Act → World → Prop} {Q : Exit → Act → World → Prop} {E : Prop} (hgd : o.guard = none) (s x : Operand) (t : TypeId)
    (ho : o.op = .call { callee := .builtin .append, args := #[s, x], argTypes := #[t, t] })
    (base : Nat) (e : TypeId) (i : TypeInfo) (z : Value) (size bytes : Nat) (ht : P.underlying t = some (.slice e)) (hi : P.info? e = some i) (hz : i.zero = some z)
    (hsize : i.size = size) (hby : i.bytes = bytes) (hzs : z.cells.size = size) (hsz : 0 < size)
    (v : Value) (n : Nat) (xs : List Value) (hs : a.eval s = v) (hown : w.ownsRow base e size v n xs) (A : Option Addr) (m c : Nat) (news : List Value) (hx : a.eval x = .slice A m c) (hl : news.length = m * size) (hnews : Src w A news) (h1 : ∀ u ∈ news, u.oneCell' = true)
    (h63 : n + m ≤ 1000000) (hbytes : (n + m) * bytes ≤ 140737488355328) (hbase : base ≤ w.heap.size)
    (h : ∀ a' c' w', w'.ownsRow base e size (.slice a' (n + m) c') (n + m) (xs ++ news) → w.grownBy w' v.ownBlock → ((Value.slice a' (n + m) c').ownBlock = v.ownBlock ∨ (Value.slice a' (n + m) c').ownBlock = some w.heap.size) → K (a.put o.dst (.slice a' (n + m) c')) w') :
    if Region.wanted o (yielded ops a.tmps) = true then Oper.wp P o a w K Q else E := by
  have hw : Region.wanted o (yielded ops a.tmps) = true := by simp [Region.wanted, hgd]
  rw [if_pos hw]
  exact wp_app s x t ho base e i z size bytes ht hi hz hsize hby hzs hsz v n xs hs hown A m c news hx hl hnews h1 h63 hbytes hbase h
/-- The kids lie in blocks that came later: what an append leaves of the parser, the frame and the tree. -/
theorem app_kids {b q n₀ : Nat} {s : ByteArray} {w W W' : World} {st : PS} {k : Int} {x y : Bool} {nm : ByteArray} {ws : List ByteArray} {rs : List Rd} {ks ys : List Nd} {vw vr vk : Value} {T Tx : Nat → Prop} {a' : Option Addr} {c' m : Nat} {L K : Nat → List Value}
    (h : NdB q n₀ k x y nm ws rs ks vw vr vk T W) (hp : PF b s W st) (hf : Fb b w W) (hbn : b < n₀) (hqb : q ≠ b) (hq16 : 8 ≤ q) (hqw : w.heap.size ≤ q)
    (hown : W'.ownsRow n₀ 30 7 (.slice a' m c') m (flat K ks.length ++ flat L ys.length)) (hat : ∀ i x, ks[i]? = some x → ElN.at_ W T (K i) x) (hm : m = ks.length + ys.length) (hx : ∀ i x, ys[i]? = some x → NdAt W Tx (L i) x)
    (hT : ∀ g, Tx g → n₀ ≤ g ∧ g < W.heap.size ∧ g ≠ q ∧ vw.ownBlock ≠ some g ∧ vr.ownBlock ≠ some g ∧ vk.ownBlock ≠ some g)
    (hg : W.grownBy W' vk.ownBlock) (ho : (Value.slice a' m c').ownBlock = vk.ownBlock ∨ (Value.slice a' m c').ownBlock = some W.heap.size) (hnw : ∀ g, vk.ownBlock = some g → w.heap.size ≤ g) :
    NdB q n₀ k x y nm ws rs (ks ++ ys) vw vr (.slice a' m c') (fun g => T g ∨ Tx g) (W'.setCell ⟨q, 6, none⟩ (.slice a' m c')) ∧ PF b s (W'.setCell ⟨q, 6, none⟩ (.slice a' m c')) st ∧ Fb b w (W'.setCell ⟨q, 6, none⟩ (.slice a' m c')) := by
  obtain ⟨K0, hr0, _⟩ := h.rk.row
  have hB1 : Blk W' q 30 #[.int .i64 k, .bool x, .bool y, .string nm, vw, vr, vk] := (hg.block q h.blk.lt (fun e => h.qk e.symm)).trans h.blk
  exact ⟨h.kids ⟨K, hown, hat⟩ hm hx hT hg ho, (hp.grown hr0 (by decide) hbn hg).write hB1 (by decide) hqb hq16, (hf.grown' hg hnw).new_ hqw _ _⟩
theorem app_words {b q n₀ : Nat} {s : ByteArray} {w W W' : World} {st : PS} {k : Int} {x y : Bool} {nm : ByteArray} {ws ys : List ByteArray} {rs : List Rd} {ks : List Nd} {vw vr vk : Value} {T : Nat → Prop} {a' : Option Addr} {c' m : Nat} {L K : Nat → List Value}
    (h : NdB q n₀ k x y nm ws rs ks vw vr vk T W) (hp : PF b s W st) (hf : Fb b w W) (hbn : b < n₀) (hqb : q ≠ b) (hq16 : 8 ≤ q) (hqw : w.heap.size ≤ q)
    (hown : W'.ownsRow n₀ 9 1 (.slice a' m c') m (flat K ws.length ++ flat L ys.length)) (hat : ∀ i x, ws[i]? = some x → ElS.at_ W T (K i) x) (hm : m = ws.length + ys.length) (hx : ∀ i x, ys[i]? = some x → L i = [.string x])
    (hg : W.grownBy W' vw.ownBlock) (ho : (Value.slice a' m c').ownBlock = vw.ownBlock ∨ (Value.slice a' m c').ownBlock = some W.heap.size) (hnw : ∀ g, vw.ownBlock = some g → w.heap.size ≤ g) :
    NdB q n₀ k x y nm (ws ++ ys) rs ks (.slice a' m c') vr vk T (W'.setCell ⟨q, 4, none⟩ (.slice a' m c')) ∧ PF b s (W'.setCell ⟨q, 4, none⟩ (.slice a' m c')) st ∧ Fb b w (W'.setCell ⟨q, 4, none⟩ (.slice a' m c')) := by
  obtain ⟨K0, hr0, _⟩ := h.rw_.row
  have hB1 : Blk W' q 30 #[.int .i64 k, .bool x, .bool y, .string nm, vw, vr, vk] := (hg.block q h.blk.lt (fun e => h.qw e.symm)).trans h.blk
  exact ⟨h.words ⟨K, hown, hat⟩ hm hx hg ho, (hp.grown hr0 (by decide) hbn hg).write hB1 (by decide) hqb hq16, (hf.grown' hg hnw).new_ hqw _ _⟩
theorem app_reds {b q n₀ : Nat} {s : ByteArray} {w W W' : World} {st : PS} {k : Int} {x y : Bool} {nm : ByteArray} {ws : List ByteArray} {rs ys : List Rd} {ks : List Nd} {vw vr vk : Value} {T : Nat → Prop} {a' : Option Addr} {c' m : Nat} {L K : Nat → List Value}
    (h : NdB q n₀ k x y nm ws rs ks vw vr vk T W) (hp : PF b s W st) (hf : Fb b w W) (hbn : b < n₀) (hqb : q ≠ b) (hq16 : 8 ≤ q) (hqw : w.heap.size ≤ q)
    (hown : W'.ownsRow n₀ 50 5 (.slice a' m c') m (flat K rs.length ++ flat L ys.length)) (hat : ∀ i x, rs[i]? = some x → ElR.at_ W T (K i) x) (hm : m = rs.length + ys.length) (hx : ∀ i x, ys[i]? = some x → L i = [.int .i64 x.fd, .string x.op, .string x.word, .string x.doc, .bool x.raw])
    (hg : W.grownBy W' vr.ownBlock) (ho : (Value.slice a' m c').ownBlock = vr.ownBlock ∨ (Value.slice a' m c').ownBlock = some W.heap.size) (hnw : ∀ g, vr.ownBlock = some g → w.heap.size ≤ g) :
    NdB q n₀ k x y nm ws (rs ++ ys) ks vw (.slice a' m c') vk T (W'.setCell ⟨q, 5, none⟩ (.slice a' m c')) ∧ PF b s (W'.setCell ⟨q, 5, none⟩ (.slice a' m c')) st ∧ Fb b w (W'.setCell ⟨q, 5, none⟩ (.slice a' m c')) := by
  obtain ⟨K0, hr0, _⟩ := h.rr.row
  have hB1 : Blk W' q 30 #[.int .i64 k, .bool x, .bool y, .string nm, vw, vr, vk] := (hg.block q h.blk.lt (fun e => h.qr e.symm)).trans h.blk
  exact ⟨h.reds ⟨K, hown, hat⟩ hm hx hg ho, (hp.grown hr0 (by decide) hbn hg).write hB1 (by decide) hqb hq16, (hf.grown' hg hnw).new_ hqw _ _⟩
/-- Two trees of a row, cell by cell. -/
theorem Done.pr_at {w : World} {T : Nat → Prop} {a : Option Addr} {n c i : Nat} {xs : List (Nd × Nd)} {t : Nd × Nd} (h : Done ElP 145 w T (.slice a n c) xs) (hn : n = xs.length) (hi : xs[i]? = some t) :
    ∃ (g : Nat) (k : Int) (x y : Bool) (nm : ByteArray) (aw : Option Addr) (nw cw : Nat) (ar : Option Addr) (nr cr : Nat) (ak : Option Addr) (nk ck : Nat) (ki : Int) (xu yv : Bool) (mm : ByteArray) (bw : Option Addr) (ow dw : Nat) (br : Option Addr) (er dr : Nat) (bk : Option Addr) (ek dk : Nat), a = some ⟨g, 0, none⟩ ∧ T g ∧
      Pr w T [.int .i64 k, .bool x, .bool y, .string nm, .slice aw nw cw, .slice ar nr cr, .slice ak nk ck] [.int .i64 ki, .bool xu, .bool yv, .string mm, .slice bw ow dw, .slice br er dr, .slice bk ek dk] t ∧
      w.cell? ⟨g, i * 14, none⟩ = some (.int .i64 k) ∧ w.cell? ⟨g, i * 14 + 1, none⟩ = some (.bool x) ∧ w.cell? ⟨g, i * 14 + 2, none⟩ = some (.bool y) ∧ w.cell? ⟨g, i * 14 + 3, none⟩ = some (.string nm) ∧ w.cell? ⟨g, i * 14 + 4, none⟩ = some (.slice aw nw cw) ∧ w.cell? ⟨g, i * 14 + 5, none⟩ = some (.slice ar nr cr) ∧ w.cell? ⟨g, i * 14 + 6, none⟩ = some (.slice ak nk ck) ∧
      w.cell? ⟨g, i * 14 + 7, none⟩ = some (.int .i64 ki) ∧ w.cell? ⟨g, i * 14 + 8, none⟩ = some (.bool xu) ∧ w.cell? ⟨g, i * 14 + 9, none⟩ = some (.bool yv) ∧ w.cell? ⟨g, i * 14 + 10, none⟩ = some (.string mm) ∧ w.cell? ⟨g, i * 14 + 11, none⟩ = some (.slice bw ow dw) ∧ w.cell? ⟨g, i * 14 + 12, none⟩ = some (.slice br er dr) ∧ w.cell? ⟨g, i * 14 + 13, none⟩ = some (.slice bk ek dk) := by
  subst hn
  obtain ⟨n₀, K, h1, h2⟩ := h.row
  have hlt := (List.getElem?_eq_some_iff.1 hi).1
  obtain ⟨g, cap, hv, _, _⟩ := h1.form (by omega)
  obtain ⟨rfl, rfl⟩ : a = some ⟨g, 0, none⟩ ∧ c = cap := by simpa using hv
  have hg := h.own g rfl
  have hN := h2 i t hi
  have hfl := (flat_get (K := K) (k := 14) xs.length (fun j hj => ElP.len (h2 j _ (List.getElem?_eq_getElem hj)))).2 i hlt
  have hc : ∀ j, j < 14 → w.cell? ⟨g, i * 14 + j, none⟩ = (K i)[j]? := fun j hj => by
    have h9 : i * 14 + j < xs.length * 14 := by omega
    have h8 := h1.cellAt (i * 14 + j) h9
    rw [h8, hfl j hj]
  obtain ⟨cs, ds, hN', hM', hK⟩ : ∃ c d, NdAt w T c t.1 ∧ NdAt w T d t.2 ∧ K i = c ++ d := hN
  rw [hK] at hc
  obtain ⟨t1, t2⟩ := t
  dsimp only at hN' hM' hc ⊢
  cases hN' with
  | mk K2 hw hr hrow hown hk =>
    cases hM' with
    | mk K3 hw3 hr3 hrow3 hown3 hk3 =>
      exact ⟨g, _, _, _, _, _, _, _, _, _, _, _, _, _, _, _, _, _, _, _, _, _, _, _, _, _, _, rfl, hg, ⟨.mk K2 hw hr hrow hown hk, .mk K3 hw3 hr3 hrow3 hown3 hk3⟩, hc 0 (by decide), hc 1 (by decide), hc 2 (by decide), hc 3 (by decide), hc 4 (by decide), hc 5 (by decide), hc 6 (by decide), hc 7 (by decide), hc 8 (by decide), hc 9 (by decide), hc 10 (by decide), hc 11 (by decide), hc 12 (by decide), hc 13 (by decide)⟩
end Go.Proofs.YtnhbcmhinhncfaaGreatDoor
