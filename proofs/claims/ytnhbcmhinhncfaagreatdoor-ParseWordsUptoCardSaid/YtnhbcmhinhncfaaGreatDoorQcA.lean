/- First's inner function. Conditions: the library's variables lie as they came; a text of at most 65536 bytes, a place within it. -/
import Derived.Test.YtnhbcmhinhncfaaGreatDoorQbG
namespace Go.Proofs.YtnhbcmhinhncfaaGreatDoor
open Go.RowKit Go.Shelf Go.PlainAid
set_option linter.unusedVariables false
set_option linter.unusedSimpArgs false
attribute [local go_sem] Oper.semAt_some
abbrev N11 : Array Value := #[.int .i64 0, .bool false, .bool false, .string ⟨#[]⟩, .slice none 0 0, .slice none 0 0, .slice none 0 0, .bool false, .int .i64 0, .int .i64 0, .int .i64 0]
def put11 (w : World) (q : Nat) (a1 a2 a3 a4 a5 a6 a7 a8 a9 a10 a11 : Value) : World := ((((put7 w q a1 a2 a3 a4 a5 a6 a7).setCell ⟨q, 7, none⟩ a8).setCell ⟨q, 8, none⟩ a9).setCell ⟨q, 9, none⟩ a10).setCell ⟨q, 10, none⟩ a11
theorem put11_blk {W : World} {q : Nat} {T : TypeId} {v1 v2 v3 v4 v5 v6 v7 v8 v9 v10 v11 : Value} (hB : Blk W q T #[v1, v2, v3, v4, v5, v6, v7, v8, v9, v10, v11]) (a1 a2 a3 a4 a5 a6 a7 a8 a9 a10 a11 : Value) : Blk (put11 W q a1 a2 a3 a4 a5 a6 a7 a8 a9 a10 a11) q T #[a1, a2, a3, a4, a5, a6, a7, a8, a9, a10, a11] := by
  have h0 : Blk _ q T #[v1, v2, v3, v4, v5, v6, v7, v8, v9, v10, v11] := hB
  have h1 : Blk _ q T #[a1, v2, v3, v4, v5, v6, v7, v8, v9, v10, v11] := h0.set_ 0 a1
  have h2 : Blk _ q T #[a1, a2, v3, v4, v5, v6, v7, v8, v9, v10, v11] := h1.set_ 1 a2
  have h3 : Blk _ q T #[a1, a2, a3, v4, v5, v6, v7, v8, v9, v10, v11] := h2.set_ 2 a3
  have h4 : Blk _ q T #[a1, a2, a3, a4, v5, v6, v7, v8, v9, v10, v11] := h3.set_ 3 a4
  have h5 : Blk _ q T #[a1, a2, a3, a4, a5, v6, v7, v8, v9, v10, v11] := h4.set_ 4 a5
  have h6 : Blk _ q T #[a1, a2, a3, a4, a5, a6, v7, v8, v9, v10, v11] := h5.set_ 5 a6
  have h7 : Blk _ q T #[a1, a2, a3, a4, a5, a6, a7, v8, v9, v10, v11] := h6.set_ 6 a7
  have h8 : Blk _ q T #[a1, a2, a3, a4, a5, a6, a7, a8, v9, v10, v11] := h7.set_ 7 a8
  have h9 : Blk _ q T #[a1, a2, a3, a4, a5, a6, a7, a8, a9, v10, v11] := h8.set_ 8 a9
  have h10 : Blk _ q T #[a1, a2, a3, a4, a5, a6, a7, a8, a9, a10, v11] := h9.set_ 9 a10
  exact h10.set_ 10 a11
theorem put11_far (W : World) (q : Nat) (a1 a2 a3 a4 a5 a6 a7 a8 a9 a10 a11 : Value) {g : Nat} (h : g ≠ q) : (put11 W q a1 a2 a3 a4 a5 a6 a7 a8 a9 a10 a11).heap[g]? = W.heap[g]? := by
  unfold put11
  rw [Below.heap_setCell _ _ _ _ h, Below.heap_setCell _ _ _ _ h, Below.heap_setCell _ _ _ _ h, Below.heap_setCell _ _ _ _ h]
  exact put7_far _ _ _ _ _ _ _ _ _ h
theorem put11_size (W : World) (q : Nat) (a1 a2 a3 a4 a5 a6 a7 a8 a9 a10 a11 : Value) : (put11 W q a1 a2 a3 a4 a5 a6 a7 a8 a9 a10 a11).heap.size = W.heap.size := by
  unfold put11
  simp only [World.size_setCell]
  exact put7_size _ _ _ _ _ _ _ _ _
theorem put11_fb {b : Nat} {w W : World} {q : Nat} (h : Fb b w W) (hq : w.heap.size ≤ q) (a1 a2 a3 a4 a5 a6 a7 a8 a9 a10 a11 : Value) : Fb b w (put11 W q a1 a2 a3 a4 a5 a6 a7 a8 a9 a10 a11) := ((((put7_fb h hq _ _ _ _ _ _ _).new_ hq _ _).new_ hq _ _).new_ hq _ _).new_ hq _ _
/-- What answers a complete command. -/
def CpAn (w : World) (c : CP) (e : Ending) (w' : World) : Prop :=
  ∃ (k : Int) (x y : Bool) (nm : ByteArray) (aw : Option Addr) (nw cw : Nat) (ar : Option Addr) (nr cr : Nat) (ak : Option Addr) (nk ck : Nat) (T : Nat → Prop), e = .returned (.agg #[.int .i64 k, .bool x, .bool y, .string nm, .slice aw nw cw, .slice ar nr cr, .slice ak nk ck, .bool c.there, .int .i64 c.next, .int .i64 c.place, .int .i64 c.err]) ∧
    NdAt w' T [.int .i64 k, .bool x, .bool y, .string nm, .slice aw nw cw, .slice ar nr cr, .slice ak nk ck] c.tree ∧ (∀ g, T g → w.heap.size ≤ g ∧ g < w'.heap.size) ∧ Below w.heap.size w w'
section
variable {b : Nat} {s : ByteArray} {w : World} {st : PS}
theorem CpAn.nil {W : World} {q : Nat} (hf : Fb b w W) (hb : w.heap.size ≤ b) (hq : w.heap.size ≤ q) (n p e : Int) :
    CpAn w ⟨nd0, false, n, p, e⟩ (.returned (.agg #[.int .i64 0, .bool false, .bool false, .string ⟨#[]⟩, .slice none 0 0, .slice none 0 0, .slice none 0 0, .bool false, .int .i64 n, .int .i64 p, .int .i64 e])) (put11 W q (.int .i64 0) (.bool false) (.bool false) (.string ⟨#[]⟩) (.slice none 0 0) (.slice none 0 0) (.slice none 0 0) (.bool false) (.int .i64 n) (.int .i64 p) (.int .i64 e)) :=
  ⟨0, false, false, ⟨#[]⟩, none, 0, 0, none, 0, 0, none, 0, 0, fun _ => False, rfl, NdAt.of (ws := []) (rs := []) (kids := []) (Done.nil _ _ _ _) (Done.nil _ _ _ _) (Done.nil _ _ _ _), fun g hg => hg.elim, (put11_fb hf hq _ _ _ _ _ _ _ _ _ _ _).below hb (Nat.le_refl _)⟩
theorem CpAn.of {W : World} {q : Nat} {n : Nd} {k : Int} {x y : Bool} {nm : ByteArray} {aw : Option Addr} {nw cw : Nat} {ar : Option Addr} {nr cr : Nat} {ak : Option Addr} {nk ck : Nat} {T : Nat → Prop} (h : NdAt W T [.int .i64 k, .bool x, .bool y, .string nm, .slice aw nw cw, .slice ar nr cr, .slice ak nk ck] n) (hT : ∀ g, T g → w.heap.size ≤ g ∧ g < W.heap.size ∧ g ≠ q) (hf : Fb b w W) (hb : w.heap.size ≤ b) (hq : w.heap.size ≤ q) (nx : Int) :
    CpAn w ⟨n, true, nx, 0, 0⟩ (.returned (.agg #[.int .i64 k, .bool x, .bool y, .string nm, .slice aw nw cw, .slice ar nr cr, .slice ak nk ck, .bool true, .int .i64 nx, .int .i64 0, .int .i64 0])) (put11 W q (.int .i64 k) (.bool x) (.bool y) (.string nm) (.slice aw nw cw) (.slice ar nr cr) (.slice ak nk ck) (.bool true) (.int .i64 nx) (.int .i64 0) (.int .i64 0)) :=
  ⟨k, x, y, nm, aw, nw, cw, ar, nr, cr, ak, nk, ck, T, rfl, h.keep (fun g hg => put11_far _ _ _ _ _ _ _ _ _ _ _ _ _ (hT g hg).2.2) (fun _ h => h), fun g hg => ⟨(hT g hg).1, by rw [put11_size]; exact (hT g hg).2.1⟩, (put11_fb hf hq _ _ _ _ _ _ _ _ _ _ _).below hb (Nat.le_refl _)⟩
theorem CpAn.drew {c : CP} {e : Ending} {W : World} (h : CpAn w c e W) : CpAn w c e W.drew := by
  obtain ⟨k, x, y, nm, aw, nw, cw, ar, nr, cr, ak, nk, ck, T, rfl, h1, h2, h3⟩ := h
  exact ⟨k, x, y, nm, aw, nw, cw, ar, nr, cr, ak, nk, ck, T, rfl, h1.keep (fun _ _ => rfl) (fun _ h => h), h2, below_drew h3 1⟩
theorem peek_x (h : PF b s w st) : Calls Tryz.prog 20 #[ptr b] w fun e w' => e = .returned (tkV (peekP s st)) ∧ PAt b s w' (fill s st) ∧ Fb b w w' := by
  obtain ⟨hk, st0, h0, e⟩ := h
  refine (peek_ans h0).mono fun r w' hr => ?_
  rw [peek_eq e, e] at hr
  exact hr
theorem PAt.cell5 (h : PAt b s w st) : w.cell? ⟨b, 5, none⟩ = some (.int .i64 st.err) := by obtain ⟨a, c, h⟩ := h; exact h.blk.cell 5
theorem PAt.cell4 (h : PAt b s w st) : w.cell? ⟨b, 4, none⟩ = some (.int .i64 st.place) := by obtain ⟨a, c, h⟩ := h; exact h.blk.cell 4
theorem PAt.cell1 (h : PAt b s w st) : w.cell? ⟨b, 1, none⟩ = some (.int .i64 st.at_) := by obtain ⟨a, c, h⟩ := h; exact h.blk.cell 1
theorem Hd.keepge {n : Nd} {k : Int} {x y : Bool} {nm : ByteArray} {aw : Option Addr} {nw cw : Nat} {ar : Option Addr} {nr cr : Nat} {ak : Option Addr} {nk ck : Nat} {T : Nat → Prop} {W W' : World} (h : Hd b w n k x y nm aw nw cw ar nr cr ak nk ck T W) (hf : Fb b W W') (hb : ¬ T b) : Hd b w n k x y nm aw nw cw ar nr cr ak nk ck T W' :=
  ⟨h.at_.keep (fun g hg => hf.block g (h.ge g hg).2 (fun e => hb (e ▸ hg))) (fun _ h => h), fun g hg => ⟨(h.ge g hg).1, Nat.lt_of_lt_of_le (h.ge g hg).2 hf.size⟩⟩
set_option maxRecDepth 100000 in
set_option maxHeartbeats 8000000 in
theorem first_any (s : ByteArray) (i : Nat) (hs : s.size ≤ 65536) (hi : i ≤ s.size) (hg : Gl w) : Calls Tryz.prog 13 #[.string s, .int .i64 i] w (CpAn w (firstP s i)) := by
  obtain ⟨q4, hq4⟩ : ∃ x, w.heap.size = x := ⟨_, rfl⟩
  obtain ⟨b, hbq⟩ : ∃ x, w.heap.size + 1 = x := ⟨_, rfl⟩
  have h16 := hg.sz
  have hqb : q4 ≠ b := by omega
  have hb16 : 8 ≤ b := by omega
  obtain ⟨W, hW⟩ : ∃ W, w.alloc (.cells N11 46) = W := ⟨_, rfl⟩
  have eb : W.heap.size = b := by rw [← hW, World.size_alloc, hbq]
  obtain ⟨W1, hW1⟩ : ∃ W1, W.alloc (.cells #[.string s, .int .i64 i, .slice none 0 0, .bool false, .int .i64 0, .int .i64 0] 56) = W1 := ⟨_, rfl⟩
  have hb1 : Below w.heap.size w W1 := by rw [← hW1, ← hW]; exact ((Below.refl _ _).alloc (Nat.le_refl _) _).alloc (by rw [World.size_alloc]; omega) _
  have hZ := Lib.hid (show Blk W1 q4 46 N11 by rw [← hW1, ← hW, ← hq4]; exact (Blk.new _ _ _).alloc _)
  have hBp : Blk W1 b 56 #[.string s, .int .i64 i, .slice none 0 0, .bool false, .int .i64 0, .int .i64 0] := by rw [← hW1, ← eb]; exact Blk.new _ _ _
  have hF1 := Lib.hid (Fb.of_below (b := b) hb1)
  have hA1 : PAt b s W1 ⟨[], i, false, 0, 0⟩ := ⟨none, 0, hBp, TksAt.nil _ _ _ _, hg.keep hb1.size (fun g h1 => hb1.block g (by omega)), hb16, ⟨hs, hi, Nat.zero_le _, fun e => absurd rfl e, fun t h => nomatch h⟩⟩
  have hWH := Lib.hid hW
  have hW1H := Lib.hid hW1
  have hq4H := Lib.hid hq4
  have ebH := Lib.hid eb
  have hwb : w.heap.size ≤ b := by omega
  have hwq : w.heap.size ≤ q4 := Nat.le_of_eq hq4
  have hnl := Lib.hid (newlines_any hA1)
  have hfp := Lib.hid (show firstP s i = (fun p : PS => if p.err = 0 ∧ (peekP s p).kind = 0 then (⟨nd0, false, s.size, 0, 0⟩ : CP) else (fun r : Nd × PS => (fun q : PS => if q.err ≠ 0 then (⟨nd0, false, 0, q.place, q.err⟩ : CP) else ⟨r.1, true, q.at_, 0, 0⟩) (if (peekP s r.2).kind ≠ 0 then needP s ((peekP s r.2).kind == 3) r.2 else fill s r.2)) (listP s p)) (newl s ⟨[], i, false, 0, 0⟩) from rfl)
  have hokp := (lo_newl hA1.ok).ok
  obtain ⟨p, hp⟩ : ∃ p, newl s ⟨[], i, false, 0, 0⟩ = p := ⟨_, rfl⟩
  rw [hp] at hnl hfp hokp
  dsimp only at hfp
  obtain ⟨C, hC⟩ : ∃ C, firstP s i = C := ⟨_, rfl⟩
  rw [hC] at hfp ⊢
  have hpk := Lib.hid (fun W (h : PAt b s W p) => peek_ans h)
  obtain ⟨t, ht⟩ : ∃ t, peekP s p = t := ⟨_, rfl⟩
  rw [ht] at hpk hfp
  have e0 := fldk
  have hokpH := Lib.hid hokp
  clear hW hW1 hb1 hbq eb hBp hA1 hp hC ht hg hq4 hokp
  go_enter Tryz.func13, Tryz.ntmps13
  go_upto_region 1 with fail
  rw [hWH.out, hq4H.out]
  go_upto_region 2 with fail
  rw [hW1H.out, ebH.out]
  go_upto_region 3 with (go_at_call 19; refine hnl.out.mono ?_; rintro e w2 ⟨rfl, hA2, hF2⟩; have hA2H := Lib.hid hA2; have hF2H := Lib.hid hF2; clear hA2 hF2)
  have c5 : w2.cell? ⟨b, 5, none⟩ = some (.int .i64 p.err) := hA2H.out.cell5
  have hpk2 := Lib.hid (hpk.out _ hA2H.out)
  have hZ2 := Lib.hid (hF2H.out.blk hZ.out hqb)
  have hZ1H := Lib.hid hZ.out
  clear hnl hpk hZ
  by_cases hemp : p.err = 0 ∧ t.kind = 0
  · obtain ⟨he, hk⟩ := hemp
    have hC1 := hfp.out
    rw [if_pos ⟨he, hk⟩] at hC1
    subst hC1
    clear hfp
    go_upto_region 4 with (go_at_call 20; refine hpk2.out.mono ?_; rintro e w3 ⟨rfl, hA3, hF3⟩; have hF3H := Lib.hid (hF2H.out.trans hF3); have hZ3 := Lib.hid (hF3.blk hZ2.out hqb); clear hA3 hF3; dsimp only [tkV])
    have z0 := hZ3.out.cell 0
    have z1 := hZ3.out.cell 1
    have z2 := hZ3.out.cell 2
    have z3 := hZ3.out.cell 3
    have z4 := hZ3.out.cell 4
    have z5 := hZ3.out.cell 5
    have z6 := hZ3.out.cell 6
    have z7 := hZ3.out.cell 7
    have z8 := hZ3.out.cell 8
    have z9 := hZ3.out.cell 9
    have z10 := hZ3.out.cell 10
    have g0 := hZ3.out.frozen 0
    have g1 := hZ3.out.frozen 1
    have g2 := hZ3.out.frozen 2
    have g3 := hZ3.out.frozen 3
    have g4 := hZ3.out.frozen 4
    have g5 := hZ3.out.frozen 5
    have g6 := hZ3.out.frozen 6
    have g7 := hZ3.out.frozen 7
    have g8 := hZ3.out.frozen 8
    have g9 := hZ3.out.frozen 9
    have g10 := hZ3.out.frozen 10
    go_wp2_with fail
    refine bodyPost_ret (results_cell_row rfl _ _ q4 46 #[.int .i64 0, .bool false, .bool false, .string ⟨#[]⟩, .slice none 0 0, .slice none 0 0, .slice none 0 0, .bool false, .int .i64 s.size, .int .i64 0, .int .i64 0] (0, 0) _ rfl (put11_blk hZ3.out _ _ _ _ _ _ _ _ _ _ _) Tryz.underlying46 rfl (by kernel_rfl)) rfl ?_
    exact CpAn.nil (hF1.out.trans hF3H.out) hwb hwq _ _ _
  · have hC1 := hfp.out
    rw [if_neg hemp] at hC1
    have hls := Lib.hid (fun W (hp : PF b s W p) => list_all hp)
    obtain ⟨L, hL⟩ : ∃ L, listP s p = L := ⟨_, rfl⟩
    rw [hL] at hls hC1
    obtain ⟨n, st1⟩ := L
    dsimp only at hls hC1
    have hpx := Lib.hid (fun W (hp : PF b s W st1) => peek_x hp)
    obtain ⟨u, hu⟩ : ∃ u, peekP s st1 = u := ⟨_, rfl⟩
    rw [hu] at hpx hC1
    obtain ⟨q, hq⟩ : ∃ q, (if u.kind ≠ 0 then needP s (u.kind == 3) st1 else fill s st1) = q := ⟨_, rfl⟩
    rw [hq] at hC1
    have hqH := Lib.hid hq
    have huH := Lib.hid hu
    have hCH := Lib.hid hC1
    clear hfp hL hu hq hC1
    go_cut [23] (fun s23 wx => s23 = .bool false ∧ Hid (PF b s wx p ∧ Fb b W1 wx))
    case first =>
      cases he : (p.err == 0)
      · go_wp2_with fail
        go_meet
        case rel => exact ⟨rfl, Lib.hid ⟨PF.of hA2H.out, hF2H.out⟩⟩
      · have hk0 : (t.kind == 0) = false := by
          cases hk : (t.kind == 0)
          · rfl
          · exact absurd ⟨eq_of_beq he, eq_of_beq hk⟩ hemp
        go_wp2_with (go_at_call 20; refine hpk2.out.mono ?_; rintro e w3 ⟨rfl, hA3, hF3⟩; have hF3H := Lib.hid (hF2H.out.trans hF3); have hA3H := Lib.hid ((PF.of hA3).unfill hokpH.out); clear hA3 hF3; dsimp only [tkV])
        go_meet
        case rel => exact ⟨rfl, Lib.hid ⟨hA3H.out, hF3H.out⟩⟩
    case rest =>
      obtain ⟨rfl, hcut⟩ := hcut
      have hpc := Lib.hid hcut.out.1
      have hfc := Lib.hid (hF1.out.trans hcut.out.2)
      have hls3 := Lib.hid (hls.out _ hcut.out.1)
      have hZ3 := Lib.hid (show Blk wc q4 46 N11 from hcut.out.2.blk hZ1H.out hqb)
      clear hcut hpk2 hls hemp c5 hZ2
      go_upto_region 6 with (go_at_call 21; refine hls3.out.mono ?_; rintro e w4 ⟨k, x, y, nm, aw, nw, cw, ar, nr, cr, ak, nk, ck, T, rfl, hN, hT, hA, hF⟩; have hN4 := Lib.hid hN; have hT4 := Lib.hid hT; have hA4 := Lib.hid hA; have hF4 := Lib.hid hF; clear hN hT hA hF)
      obtain ⟨q6, hq6⟩ : ∃ q, w4.heap.size = q := ⟨_, rfl⟩
      obtain ⟨W5, hW5⟩ : ∃ W, w4.alloc (.cells #[.int .i64 k, .bool x, .bool y, .string nm, .slice aw nw cw, .slice ar nr cr, .slice ak nk ck] 30) = W := ⟨_, rfl⟩
      have hb5 : Below w4.heap.size w4 W5 := by rw [← hW5]; exact (Below.refl _ _).alloc (Nat.le_refl _) _
      have hE5 := Lib.hid (show Blk W5 q6 30 #[.int .i64 k, .bool x, .bool y, .string nm, .slice aw nw cw, .slice ar nr cr, .slice ak nk ck] by rw [← hW5, ← hq6]; exact Blk.new _ _ _)
      have hHd5 := Lib.hid ((show Hd b w n k x y nm aw nw cw ar nr cr ak nk ck T w4 from ⟨hN4.out, fun g hg => ⟨Nat.le_trans hfc.out.size (hT4.out g hg).1, (hT4.out g hg).2⟩⟩).keepge (Fb.of_below hb5) (fun e => by have := (hT4.out _ e).1; have := hpc.out.lt; omega))
      have hnT := Lib.hid (show ¬ T q4 ∧ ¬ T b from ⟨fun e => by have := (hT4.out _ e).1; have := hZ3.out.lt; omega, fun e => by have := (hT4.out _ e).1; have := hpc.out.lt; omega⟩)
      have hp5 := Lib.hid (hpx.out _ (hA4.out.below hb5))
      have hF5 := Lib.hid (hF4.out.trans (Fb.of_below hb5))
      have hZ5 := Lib.hid (hF5.out.blk hZ3.out hqb)
      have hq6b : q6 ≠ b := by have := (hfc.out.trans hF4.out).size; have := hpc.out.lt; have := hF4.out.size; omega
      have hfw5 := Lib.hid (hfc.out.trans hF5.out)
      have hq64 := Lib.hid (show q4 < q6 by have := (hF4.out.blk hZ3.out hqb).lt; omega)
      rw [hW5, hq6]
      clear hW5 hb5 hq6 hls3 hpx hN4 hT4
      go_upto_if 32 with (go_at_call 20; refine hp5.out.mono ?_; rintro e w6 ⟨rfl, hA6, hF6⟩; have hA6H := Lib.hid hA6; have hF6H := Lib.hid hF6; clear hA6 hF6; dsimp only [tkV])
      go_cut [] (fun wx => Hid (PAt b s wx q ∧ Fb b W5 wx))
      case first =>
        have hok1 := hA4.out.ok
        have hff := fill_fill hok1
        have hpk7 := peek_ans hA6H.out
        rw [peek_eq hff, huH.out, hff] at hpk7
        have hpk7H := Lib.hid hpk7
        obtain ⟨m, hm⟩ : ∃ m, (u.kind == 3) = m := ⟨_, rfl⟩
        have hne7 := Lib.hid (show ∀ W, PAt b s W (fill s st1) → Calls Tryz.prog 22 #[ptr b, .bool m] W (Ans b s W (tkV (needT s m (fill s st1))) (needP s m st1)) from fun W hp => by
          have h9 := need_any hp m
          rwa [(need_eq hff m).1] at h9)
        have hq9 := hqH.out
        rw [hm] at hq9
        have hmH := Lib.hid hm
        clear hpk7 hm hff hok1
        cases hk : (u.kind == 0)
        · have hk0 : (u.kind != 0) = true := by simp [bne, hk]
          rw [if_pos (fun e => by rw [e] at hk; cases hk)] at hq9
          subst hq9
          go_wp2_with (first
            | (go_at_call 20; refine hpk7H.out.mono ?_; rintro e w7 ⟨rfl, hA7, hF7⟩; have hA7H := Lib.hid (hne7.out _ hA7); have hF7H := Lib.hid (hF6H.out.trans hF7); clear hA7 hF7; dsimp only [tkV])
            | (go_at_call 22; rw [hmH.out]; refine hA7H.out.mono ?_; rintro e w8 ⟨rfl, hA8, hF8⟩; have hA8H := Lib.hid hA8; have hF8H := Lib.hid (hF7H.out.trans hF8); clear hA8 hF8))
          go_meet
          case rel => exact Lib.hid ⟨hA8H.out, hF8H.out⟩
        · have hk0 : (u.kind != 0) = false := by simp [bne, hk]
          rw [if_neg (fun e => e (eq_of_beq hk))] at hq9
          subst hq9
          go_wp2_with fail
          go_meet
          case rel => exact Lib.hid ⟨hA6H.out, hF6H.out⟩
      case rest =>
        have hAq := Lib.hid hcut.out.1
        have hFq := Lib.hid hcut.out.2
        have hfwq := Lib.hid (hfw5.out.trans hFq.out)
        have hZq := Lib.hid (hFq.out.blk hZ5.out hqb)
        have hEq := Lib.hid (hFq.out.blk hE5.out hq6b)
        have hHq := Lib.hid (hHd5.out.keepge hFq.out hnT.out.2)
        have d5 : wc.cell? ⟨b, 5, none⟩ = some (.int .i64 q.err) := hAq.out.cell5
        have hC9 := hCH.out
        clear hcut hqH hA4 hp5 hF5 hpc hZ3 hF4
        have hbq4 : ¬ b = q4 := fun e => hqb e.symm
        have hq46 : ¬ q4 = q6 := by have h1 := hZ5.out.lt; have h2 := hE5.out.lt; have h3 := hq64.out; omega
        cases he : (q.err == 0)
        · have hne : (q.err != 0) = true := by simp [bne, he]
          rw [if_pos (fun e => by rw [e] at he; cases he)] at hC9
          subst hC9
          go_upto_region 9 with fail
          have x4 : wc.drew.cell? ⟨b, 4, none⟩ = some (.int .i64 q.place) := hAq.out.cell4
          have x4_ : wc.cell? ⟨b, 4, none⟩ = some (.int .i64 q.place) := hAq.out.cell4
          have x5 : wc.drew.cell? ⟨b, 5, none⟩ = some (.int .i64 q.err) := hAq.out.cell5
          have x5_ : wc.cell? ⟨b, 5, none⟩ = some (.int .i64 q.err) := hAq.out.cell5
          have z0_ : wc.cell? ⟨q4, 0, none⟩ = some (.int .i64 0) := hZq.out.cell 0
          have z1_ : wc.cell? ⟨q4, 1, none⟩ = some (.bool false) := hZq.out.cell 1
          have z2_ : wc.cell? ⟨q4, 2, none⟩ = some (.bool false) := hZq.out.cell 2
          have z3_ : wc.cell? ⟨q4, 3, none⟩ = some (.string ⟨#[]⟩) := hZq.out.cell 3
          have z4_ : wc.cell? ⟨q4, 4, none⟩ = some (.slice none 0 0) := hZq.out.cell 4
          have z5_ : wc.cell? ⟨q4, 5, none⟩ = some (.slice none 0 0) := hZq.out.cell 5
          have z6_ : wc.cell? ⟨q4, 6, none⟩ = some (.slice none 0 0) := hZq.out.cell 6
          have z7_ : wc.cell? ⟨q4, 7, none⟩ = some (.bool false) := hZq.out.cell 7
          have z8_ : wc.cell? ⟨q4, 8, none⟩ = some (.int .i64 0) := hZq.out.cell 8
          have z9_ : wc.cell? ⟨q4, 9, none⟩ = some (.int .i64 0) := hZq.out.cell 9
          have z10_ : wc.cell? ⟨q4, 10, none⟩ = some (.int .i64 0) := hZq.out.cell 10
          have g0_ : wc.frozen? ⟨q4, 0, none⟩ = false := hZq.out.frozen 0
          have g1_ : wc.frozen? ⟨q4, 1, none⟩ = false := hZq.out.frozen 1
          have g2_ : wc.frozen? ⟨q4, 2, none⟩ = false := hZq.out.frozen 2
          have g3_ : wc.frozen? ⟨q4, 3, none⟩ = false := hZq.out.frozen 3
          have g4_ : wc.frozen? ⟨q4, 4, none⟩ = false := hZq.out.frozen 4
          have g5_ : wc.frozen? ⟨q4, 5, none⟩ = false := hZq.out.frozen 5
          have g6_ : wc.frozen? ⟨q4, 6, none⟩ = false := hZq.out.frozen 6
          have g7_ : wc.frozen? ⟨q4, 7, none⟩ = false := hZq.out.frozen 7
          have g8_ : wc.frozen? ⟨q4, 8, none⟩ = false := hZq.out.frozen 8
          have g9_ : wc.frozen? ⟨q4, 9, none⟩ = false := hZq.out.frozen 9
          have g10_ : wc.frozen? ⟨q4, 10, none⟩ = false := hZq.out.frozen 10
          go_region
          have hBl := Lib.hid (put11_blk hZq.out (.int .i64 0) (.bool false) (.bool false) (.string ⟨#[]⟩) (.slice none 0 0) (.slice none 0 0) (.slice none 0 0) (.bool false) (.int .i64 0) (.int .i64 q.place) (.int .i64 q.err))
          have hcp := Lib.hid (CpAn.nil (q := q4) hfwq.out hwb hwq 0 q.place q.err)
          obtain ⟨W9, hW9⟩ : ∃ W, put11 wc q4 (.int .i64 0) (.bool false) (.bool false) (.string ⟨#[]⟩) (.slice none 0 0) (.slice none 0 0) (.slice none 0 0) (.bool false) (.int .i64 0) (.int .i64 q.place) (.int .i64 q.err) = W := ⟨_, rfl⟩
          rw [hW9] at hBl hcp
          unfold put11 put7 at hW9
          rw [hW9]
          clear hW9
          go_wp2_with fail
          refine bodyPost_ret (results_cell_row rfl _ _ q4 46 #[.int .i64 0, .bool false, .bool false, .string ⟨#[]⟩, .slice none 0 0, .slice none 0 0, .slice none 0 0, .bool false, .int .i64 0, .int .i64 q.place, .int .i64 q.err] (0, 0) _ rfl (show Blk W9.drew q4 _ _ from hBl.out) Tryz.underlying46 rfl (by kernel_rfl)) rfl ?_
          exact hcp.out.drew
        · have hne : (q.err != 0) = false := by simp [bne, he]
          rw [if_neg (fun e => e (eq_of_beq he))] at hC9
          subst hC9
          go_upto_region 10 with fail
          have x1 : wc.drew.cell? ⟨b, 1, none⟩ = some (.int .i64 q.at_) := hAq.out.cell1
          have x1_ : wc.cell? ⟨b, 1, none⟩ = some (.int .i64 q.at_) := hAq.out.cell1
          have c0 : wc.drew.cell? ⟨q6, 0, none⟩ = some (.int .i64 k) := hEq.out.cell 0
          have c1 : wc.drew.cell? ⟨q6, 1, none⟩ = some (.bool x) := hEq.out.cell 1
          have c2 : wc.drew.cell? ⟨q6, 2, none⟩ = some (.bool y) := hEq.out.cell 2
          have c3 : wc.drew.cell? ⟨q6, 3, none⟩ = some (.string nm) := hEq.out.cell 3
          have c4 : wc.drew.cell? ⟨q6, 4, none⟩ = some (.slice aw nw cw) := hEq.out.cell 4
          have c5 : wc.drew.cell? ⟨q6, 5, none⟩ = some (.slice ar nr cr) := hEq.out.cell 5
          have c6 : wc.drew.cell? ⟨q6, 6, none⟩ = some (.slice ak nk ck) := hEq.out.cell 6
          have cc0 : wc.cell? ⟨q6, 0, none⟩ = some (.int .i64 k) := hEq.out.cell 0
          have cc1 : wc.cell? ⟨q6, 1, none⟩ = some (.bool x) := hEq.out.cell 1
          have cc2 : wc.cell? ⟨q6, 2, none⟩ = some (.bool y) := hEq.out.cell 2
          have cc3 : wc.cell? ⟨q6, 3, none⟩ = some (.string nm) := hEq.out.cell 3
          have cc4 : wc.cell? ⟨q6, 4, none⟩ = some (.slice aw nw cw) := hEq.out.cell 4
          have cc5 : wc.cell? ⟨q6, 5, none⟩ = some (.slice ar nr cr) := hEq.out.cell 5
          have cc6 : wc.cell? ⟨q6, 6, none⟩ = some (.slice ak nk ck) := hEq.out.cell 6
          have z0_ : wc.cell? ⟨q4, 0, none⟩ = some (.int .i64 0) := hZq.out.cell 0
          have z1_ : wc.cell? ⟨q4, 1, none⟩ = some (.bool false) := hZq.out.cell 1
          have z2_ : wc.cell? ⟨q4, 2, none⟩ = some (.bool false) := hZq.out.cell 2
          have z3_ : wc.cell? ⟨q4, 3, none⟩ = some (.string ⟨#[]⟩) := hZq.out.cell 3
          have z4_ : wc.cell? ⟨q4, 4, none⟩ = some (.slice none 0 0) := hZq.out.cell 4
          have z5_ : wc.cell? ⟨q4, 5, none⟩ = some (.slice none 0 0) := hZq.out.cell 5
          have z6_ : wc.cell? ⟨q4, 6, none⟩ = some (.slice none 0 0) := hZq.out.cell 6
          have z7_ : wc.cell? ⟨q4, 7, none⟩ = some (.bool false) := hZq.out.cell 7
          have z8_ : wc.cell? ⟨q4, 8, none⟩ = some (.int .i64 0) := hZq.out.cell 8
          have z9_ : wc.cell? ⟨q4, 9, none⟩ = some (.int .i64 0) := hZq.out.cell 9
          have z10_ : wc.cell? ⟨q4, 10, none⟩ = some (.int .i64 0) := hZq.out.cell 10
          have g0_ : wc.frozen? ⟨q4, 0, none⟩ = false := hZq.out.frozen 0
          have g1_ : wc.frozen? ⟨q4, 1, none⟩ = false := hZq.out.frozen 1
          have g2_ : wc.frozen? ⟨q4, 2, none⟩ = false := hZq.out.frozen 2
          have g3_ : wc.frozen? ⟨q4, 3, none⟩ = false := hZq.out.frozen 3
          have g4_ : wc.frozen? ⟨q4, 4, none⟩ = false := hZq.out.frozen 4
          have g5_ : wc.frozen? ⟨q4, 5, none⟩ = false := hZq.out.frozen 5
          have g6_ : wc.frozen? ⟨q4, 6, none⟩ = false := hZq.out.frozen 6
          have g7_ : wc.frozen? ⟨q4, 7, none⟩ = false := hZq.out.frozen 7
          have g8_ : wc.frozen? ⟨q4, 8, none⟩ = false := hZq.out.frozen 8
          have g9_ : wc.frozen? ⟨q4, 9, none⟩ = false := hZq.out.frozen 9
          have g10_ : wc.frozen? ⟨q4, 10, none⟩ = false := hZq.out.frozen 10
          go_region
          have hBl := Lib.hid (put11_blk hZq.out (.int .i64 k) (.bool x) (.bool y) (.string nm) (.slice aw nw cw) (.slice ar nr cr) (.slice ak nk ck) (.bool true) (.int .i64 q.at_) (.int .i64 0) (.int .i64 0))
          have hcp := Lib.hid (CpAn.of (q := q4) hHq.out.at_ (fun g hg => ⟨(hHq.out.ge g hg).1, (hHq.out.ge g hg).2, fun e => hnT.out.1 (e ▸ hg)⟩) hfwq.out hwb hwq q.at_)
          obtain ⟨W9, hW9⟩ : ∃ W, put11 wc q4 (.int .i64 k) (.bool x) (.bool y) (.string nm) (.slice aw nw cw) (.slice ar nr cr) (.slice ak nk ck) (.bool true) (.int .i64 q.at_) (.int .i64 0) (.int .i64 0) = W := ⟨_, rfl⟩
          rw [hW9] at hBl hcp
          unfold put11 put7 at hW9
          rw [hW9]
          clear hW9
          go_wp2_with fail
          refine bodyPost_ret (results_cell_row rfl _ _ q4 46 #[.int .i64 k, .bool x, .bool y, .string nm, .slice aw nw cw, .slice ar nr cr, .slice ak nk ck, .bool true, .int .i64 q.at_, .int .i64 0, .int .i64 0] (0, 0) _ rfl (show Blk W9.drew q4 _ _ from hBl.out) Tryz.underlying46 rfl (by kernel_rfl)) rfl ?_
          exact hcp.out.drew
end
end Go.Proofs.YtnhbcmhinhncfaaGreatDoor
/- First. Conditions: the library's variables lie as they came; a text of at most 65536 bytes, a place within it. -/
namespace Go.Proofs.YtnhbcmhinhncfaaGreatDoor
open Go.RowKit Go.Shelf Go.PlainAid
set_option linter.unusedVariables false
set_option linter.unusedSimpArgs false
attribute [local go_sem] Oper.semAt_some
theorem results_cell_row5 {P : Program} {fn : Func} {p u1 u2 u3 u4 : Tmp} {ty : TypeId} (h : fn.results = #[.cell p ty, .tmp u1, .tmp u2, .tmp u3, .tmp u4]) (tmps : Array Value) (w : World) (g : Nat) (t : TypeId) (cs : Array Value) (d : TypeDesc)
    (hp : tmps.getD p undef = .pointer (some ⟨g, 0, none⟩)) (hg : Blk w g t cs)
    (hu : P.underlying ty = some d) (hd : (match d with | .struct _ | .array _ _ => true | _ => false) = true) (hi : (P.info? ty).map (·.size) = some cs.size) :
    (results fn tmps).run P w = .ok (.tuple #[.agg cs, tmps.getD u1 undef, tmps.getD u2 undef, tmps.getD u3 undef, tmps.getD u4 undef]) w := by
  have hp' : tmps[p]?.getD undef = .pointer (some ⟨g, 0, none⟩) := by simpa using hp
  simp [results, h, hp', Sem.run_bind, Result.andThen, asAddr, run_loadVar_row w g t ty cs (0, 0) d hg hu hd hi]
/-- What answers First. -/
def FsAn (w : World) (c : CP) (e : Ending) (w' : World) : Prop :=
  ∃ (k : Int) (x y : Bool) (nm : ByteArray) (aw : Option Addr) (nw cw : Nat) (ar : Option Addr) (nr cr : Nat) (ak : Option Addr) (nk ck : Nat) (T : Nat → Prop), e = .returned (.tuple #[.agg #[.int .i64 k, .bool x, .bool y, .string nm, .slice aw nw cw, .slice ar nr cr, .slice ak nk ck], .bool c.there, .int .i64 c.next, .int .i64 c.place, .int .i64 c.err]) ∧
    NdAt w' T [.int .i64 k, .bool x, .bool y, .string nm, .slice aw nw cw, .slice ar nr cr, .slice ak nk ck] c.tree ∧ (∀ g, T g → w.heap.size ≤ g ∧ g < w'.heap.size) ∧ Below w.heap.size w w'
set_option maxRecDepth 100000 in
set_option maxHeartbeats 8000000 in
theorem First_any {w : World} (s : ByteArray) (i : Nat) (hs : s.size ≤ 65536) (hi : i ≤ s.size) (hg : Gl w) : Calls Tryz.prog 8 #[.string s, .int .i64 i] w (FsAn w (firstP s i)) := by
  obtain ⟨q4, hq4⟩ : ∃ x, w.heap.size = x := ⟨_, rfl⟩
  have h16 := hg.sz
  obtain ⟨W, hW⟩ : ∃ W, w.alloc (.cells N7 30) = W := ⟨_, rfl⟩
  have hb1 : Below w.heap.size w W := by rw [← hW]; exact (Below.refl _ _).alloc (Nat.le_refl _) _
  have hZ := Lib.hid (show Blk W q4 30 N7 by rw [← hW, ← hq4]; exact Blk.new _ _ _)
  have hg1 : Gl W := hg.keep hb1.size (fun g h1 => hb1.block g (by omega))
  have hc := Lib.hid (first_any s i hs hi hg1)
  have hb1H := Lib.hid hb1
  have hWH := Lib.hid hW
  have hq4H := Lib.hid hq4
  obtain ⟨C, hC⟩ : ∃ C, firstP s i = C := ⟨_, rfl⟩
  rw [hC] at hc ⊢
  clear hW hb1 hq4 hg hg1 hC
  go_enter Tryz.func8, Tryz.ntmps8
  go_upto_region 1 with fail
  rw [hWH.out, hq4H.out]
  go_upto_region 2 with (go_at_call 13; refine hc.out.mono ?_; rintro e w4 ⟨k, x, y, nm, aw, nw, cw, ar, nr, cr, ak, nk, ck, T, rfl, hN, hT, hB⟩; have hN4 := Lib.hid hN; have hT4 := Lib.hid hT; have hB4 := Lib.hid hB; clear hN hT hB)
  obtain ⟨q9, hq9⟩ : ∃ q, w4.heap.size = q := ⟨_, rfl⟩
  obtain ⟨W5, hW5⟩ : ∃ W, w4.alloc (.cells #[.int .i64 k, .bool x, .bool y, .string nm, .slice aw nw cw, .slice ar nr cr, .slice ak nk ck, .bool C.there, .int .i64 C.next, .int .i64 C.place, .int .i64 C.err] 46) = W := ⟨_, rfl⟩
  have hb5 : Below w4.heap.size w4 W5 := by rw [← hW5]; exact (Below.refl _ _).alloc (Nat.le_refl _) _
  have hE5 := Lib.hid (show Blk W5 q9 46 #[.int .i64 k, .bool x, .bool y, .string nm, .slice aw nw cw, .slice ar nr cr, .slice ak nk ck, .bool C.there, .int .i64 C.next, .int .i64 C.place, .int .i64 C.err] by rw [← hW5, ← hq9]; exact Blk.new _ _ _)
  have hZ5 := Lib.hid (show Blk W5 q4 30 N7 from (hb5.block q4 (Nat.lt_of_lt_of_le hZ.out.lt hB4.out.size)).trans ((hB4.out.block q4 hZ.out.lt).trans hZ.out))
  have hN5 := Lib.hid (hN4.out.keep (w' := W5) (fun g hg => hb5.block g (hT4.out g hg).2) (fun _ h => h))
  have hT5 := Lib.hid (fun g (hg : T g) => (show w.heap.size ≤ g ∧ g < W5.heap.size ∧ g ≠ q4 from ⟨Nat.le_trans hb1H.out.size (hT4.out g hg).1, Nat.lt_of_lt_of_le (hT4.out g hg).2 hb5.size, fun e => by have := (hT4.out g hg).1; have := hZ.out.lt; omega⟩))
  have hB5 := Lib.hid (show Below w.heap.size w W5 from (hb1H.out.trans (hB4.out.mono hb1H.out.size)).trans (hb5.mono (Nat.le_trans hb1H.out.size hB4.out.size)))
  rw [hW5, hq9]
  clear hW5 hb5 hq9 hc hZ hN4 hT4 hB4
  have z0 : W5.cell? ⟨q4, 0, none⟩ = some (.int .i64 0) := hZ5.out.cell 0
  have z1 : W5.cell? ⟨q4, 1, none⟩ = some (.bool false) := hZ5.out.cell 1
  have z2 : W5.cell? ⟨q4, 2, none⟩ = some (.bool false) := hZ5.out.cell 2
  have z3 : W5.cell? ⟨q4, 3, none⟩ = some (.string ⟨#[]⟩) := hZ5.out.cell 3
  have z4 : W5.cell? ⟨q4, 4, none⟩ = some (.slice none 0 0) := hZ5.out.cell 4
  have z5 : W5.cell? ⟨q4, 5, none⟩ = some (.slice none 0 0) := hZ5.out.cell 5
  have z6 : W5.cell? ⟨q4, 6, none⟩ = some (.slice none 0 0) := hZ5.out.cell 6
  have g0 : W5.frozen? ⟨q4, 0, none⟩ = false := hZ5.out.frozen 0
  have g1 : W5.frozen? ⟨q4, 1, none⟩ = false := hZ5.out.frozen 1
  have g2 : W5.frozen? ⟨q4, 2, none⟩ = false := hZ5.out.frozen 2
  have g3 : W5.frozen? ⟨q4, 3, none⟩ = false := hZ5.out.frozen 3
  have g4 : W5.frozen? ⟨q4, 4, none⟩ = false := hZ5.out.frozen 4
  have g5 : W5.frozen? ⟨q4, 5, none⟩ = false := hZ5.out.frozen 5
  have g6 : W5.frozen? ⟨q4, 6, none⟩ = false := hZ5.out.frozen 6
  have c0 : W5.cell? ⟨q9, 0, none⟩ = some (.int .i64 k) := hE5.out.cell 0
  have c1 : W5.cell? ⟨q9, 1, none⟩ = some (.bool x) := hE5.out.cell 1
  have c2 : W5.cell? ⟨q9, 2, none⟩ = some (.bool y) := hE5.out.cell 2
  have c3 : W5.cell? ⟨q9, 3, none⟩ = some (.string nm) := hE5.out.cell 3
  have c4 : W5.cell? ⟨q9, 4, none⟩ = some (.slice aw nw cw) := hE5.out.cell 4
  have c5 : W5.cell? ⟨q9, 5, none⟩ = some (.slice ar nr cr) := hE5.out.cell 5
  have c6 : W5.cell? ⟨q9, 6, none⟩ = some (.slice ak nk ck) := hE5.out.cell 6
  have c7 : W5.cell? ⟨q9, 7, none⟩ = some (.bool C.there) := hE5.out.cell 7
  have c8 : W5.cell? ⟨q9, 8, none⟩ = some (.int .i64 C.next) := hE5.out.cell 8
  have c9 : W5.cell? ⟨q9, 9, none⟩ = some (.int .i64 C.place) := hE5.out.cell 9
  have c10 : W5.cell? ⟨q9, 10, none⟩ = some (.int .i64 C.err) := hE5.out.cell 10
  have hq49 : ¬ q4 = q9 := fun e => by have h1 := hE5.out; have h2 := hZ5.out; rw [← e] at h1; have h3 := h1.symm.trans h2; simp at h3
  have hq94 : ¬ q9 = q4 := fun e => hq49 e.symm
  go_region
  have hBl := Lib.hid (put7_blk hZ5.out (.int .i64 k) (.bool x) (.bool y) (.string nm) (.slice aw nw cw) (.slice ar nr cr) (.slice ak nk ck))
  have hN9 := Lib.hid (hN5.out.keep (w' := put7 W5 q4 (.int .i64 k) (.bool x) (.bool y) (.string nm) (.slice aw nw cw) (.slice ar nr cr) (.slice ak nk ck)) (fun g hg => put7_far _ _ _ _ _ _ _ _ _ (hT5.out g hg).2.2) (fun _ h => h))
  have hs9 := put7_size W5 q4 (.int .i64 k) (.bool x) (.bool y) (.string nm) (.slice aw nw cw) (.slice ar nr cr) (.slice ak nk ck)
  have hB9 := Lib.hid (show Below w.heap.size w (put7 W5 q4 (.int .i64 k) (.bool x) (.bool y) (.string nm) (.slice aw nw cw) (.slice ar nr cr) (.slice ak nk ck)) from (put7_fb (b := q4) (Fb.of_below hB5.out) (Nat.le_of_eq hq4H.out) _ _ _ _ _ _ _).below (Nat.le_of_eq hq4H.out) (Nat.le_refl _))
  obtain ⟨W9, hW9⟩ : ∃ W, put7 W5 q4 (.int .i64 k) (.bool x) (.bool y) (.string nm) (.slice aw nw cw) (.slice ar nr cr) (.slice ak nk ck) = W := ⟨_, rfl⟩
  rw [hW9] at hBl hN9 hs9 hB9
  unfold put7 at hW9
  rw [hW9]
  clear hW9
  go_wp2_with fail
  refine bodyPost_ret (results_cell_row5 rfl _ _ q4 30 #[.int .i64 k, .bool x, .bool y, .string nm, .slice aw nw cw, .slice ar nr cr, .slice ak nk ck] _ rfl (show Blk W9.drew q4 _ _ from hBl.out) Tryz.underlying30 rfl (by kernel_rfl)) rfl ?_
  exact ⟨k, x, y, nm, aw, nw, cw, ar, nr, cr, ak, nk, ck, T, rfl, hN9.out.keep (fun _ _ => rfl) (fun _ h => h), fun g hg => ⟨(hT5.out g hg).1, by show g < W9.heap.size; rw [hs9]; exact (hT5.out g hg).2.1⟩, below_drew hB9.out 1⟩
end Go.Proofs.YtnhbcmhinhncfaaGreatDoor
/- awake: a pipeline in an and-or is read as the document says. Condition: the library's variables lie as they came. -/
namespace Go.Proofs.YtnhbcmhinhncfaaGreatDoor
open Go.RowKit Go.Shelf Go.PlainAid
set_option linter.unusedVariables false
set_option linter.unusedSimpArgs false
attribute [local go_sem] Oper.semAt_some
/-- What a tree in memory is made of. -/
theorem NdAt.inv {w : World} {T : Nat → Prop} {k k' : Int} {x y x' y' : Bool} {nm nm' : ByteArray} {aw : Option Addr} {nw cw : Nat} {ar : Option Addr} {nr cr : Nat} {ak : Option Addr} {nk ck : Nat} {ws : List ByteArray} {rs : List Rd} {kids : List Nd}
    (h : NdAt w T [.int .i64 k, .bool x, .bool y, .string nm, .slice aw nw cw, .slice ar nr cr, .slice ak nk ck] (.mk k' x' y' nm' ws rs kids)) :
    (k = k' ∧ x = x' ∧ y = y' ∧ nm = nm' ∧ nw = ws.length ∧ nr = rs.length ∧ nk = kids.length) ∧ Done ElS 9 w T (.slice aw nw cw) ws ∧ Done ElR 50 w T (.slice ar nr cr) rs ∧ Done ElN 30 w T (.slice ak nk ck) kids := by
  cases h with
  | mk K hw hr hrow hown hk => exact ⟨⟨rfl, rfl, rfl, rfl, rfl, rfl, rfl⟩, hw, hr, ⟨⟨_, K, hrow, hk⟩, hown⟩⟩
/-- A text of a row. -/
theorem Done.text_at {w : World} {T : Nat → Prop} {a : Option Addr} {n c i : Nat} {xs : List ByteArray} {t : ByteArray} (h : Done ElS 9 w T (.slice a n c) xs) (hn : n = xs.length) (hi : xs[i]? = some t) :
    ∃ g, a = some ⟨g, 0, none⟩ ∧ T g ∧ w.cell? ⟨g, i, none⟩ = some (.string t) := by
  subst hn
  obtain ⟨n₀, K, h1, h2⟩ := h.row
  have hlt := (List.getElem?_eq_some_iff.1 hi).1
  obtain ⟨g, cap, hv, _, _⟩ := h1.form (by omega)
  obtain ⟨rfl, rfl⟩ : a = some ⟨g, 0, none⟩ ∧ c = cap := by simpa using hv
  have hN : K i = [.string t] := h2 i t hi
  have hfl := (flat_get (K := K) (k := 1) xs.length (fun j hj => ElS.len (h2 j _ (List.getElem?_eq_getElem hj)))).2 i hlt 0 (by decide)
  have h8 := h1.cellAt (i * 1 + 0) (by omega)
  rw [hfl, hN] at h8
  refine ⟨g, rfl, h.own g rfl, ?_⟩
  have e : i * 1 + 0 = i := by omega
  rw [e] at h8
  exact h8
def awT : ByteArray := ⟨#[97, 32, 38, 38, 32, 98, 32, 124, 32, 99, 10]⟩
def sim1 (t : ByteArray) : Nd := .mk 1 false false noB [t] [] []
set_option maxRecDepth 100000 in
theorem aw_is : firstP awT 0 = ⟨ndK 3 [sim1 ⟨#[97]⟩, .mk 2 false false noB [] [] [sim1 ⟨#[98]⟩, sim1 ⟨#[99]⟩]], true, 11, 0, 0⟩ := by kernel_rfl
set_option maxRecDepth 100000 in
set_option maxHeartbeats 8000000 in
theorem awake_any (w : World) (hg : Gl w) : Calls Tryz.prog 6 #[] w fun e w' => e = .returned (.bool true) ∧ Below w.heap.size w w' := by
  have hc := First_any (w := w) awT 0 (by decide) (Nat.zero_le _) hg
  rw [aw_is] at hc
  have hcH := Lib.hid hc
  clear hc hg
  go_enter Tryz.func6, Tryz.ntmps6
  go_upto_region 2 with (go_at_call 8; refine hcH.out.mono ?_; rintro e w4 ⟨k, x, y, nm, aw, nw, cw, ar, nr, cr, ak, nk, ck, T, rfl, hN, hT, hB⟩; have hN4 := Lib.hid hN; have hB4 := Lib.hid hB; have hT4 := Lib.hid hT; clear hN hT hB)
  obtain ⟨q1, hq1⟩ : ∃ q, w4.heap.size = q := ⟨_, rfl⟩
  obtain ⟨W5, hW5⟩ : ∃ W, w4.alloc (.cells #[.int .i64 k, .bool x, .bool y, .string nm, .slice aw nw cw, .slice ar nr cr, .slice ak nk ck] 30) = W := ⟨_, rfl⟩
  have hb5 : Below w4.heap.size w4 W5 := by rw [← hW5]; exact (Below.refl _ _).alloc (Nat.le_refl _) _
  have hE5 := Lib.hid (show Blk W5 q1 30 #[.int .i64 k, .bool x, .bool y, .string nm, .slice aw nw cw, .slice ar nr cr, .slice ak nk ck] by rw [← hW5, ← hq1]; exact Blk.new _ _ _)
  have hN5 := hN4.out.keep (w' := W5) (fun g hg => hb5.block g (hT4.out g hg).2) (fun _ h => h)
  obtain ⟨⟨rfl, rfl, rfl, rfl, rfl, rfl, rfl⟩, hw, hr, hk⟩ := hN5.inv
  obtain ⟨g, k1, x1, y1, nm1, aw1, nw1, cw1, ar1, nr1, cr1, ak1, nk1, ck1, rfl, hTg, hA, m0, m1, m2, m3, m4, m5, m6⟩ := hk.node_at (i := 0) rfl rfl
  obtain ⟨g2, k2, x2, y2, nm2, aw2, nw2, cw2, ar2, nr2, cr2, ak2, nk2, ck2, e2, hTg2, hP, n0, n1, n2, n3, n4, n5, n6⟩ := hk.node_at (i := 1) rfl rfl
  obtain rfl : g = g2 := by simpa using e2
  obtain ⟨⟨rfl, rfl, rfl, rfl, rfl, rfl, rfl⟩, hw1, hr1, hk1⟩ := NdAt.inv (show NdAt W5 T _ (.mk 1 false false noB [⟨#[97]⟩] [] []) from hA)
  obtain ⟨⟨rfl, rfl, rfl, rfl, rfl, rfl, rfl⟩, hw2, hr2, hk2⟩ := hP.inv
  obtain ⟨g3, rfl, hTg3, t0⟩ := hw1.text_at (i := 0) rfl rfl
  have hBB := Lib.hid (show Below w.heap.size w W5 from hB4.out.trans (hb5.mono hB4.out.size))
  rw [hW5, hq1]
  have c0 := hE5.out.cell 0
  have c6 := hE5.out.cell 6
  have m4 : W5.cell? ⟨g, 4, none⟩ = some (.slice (some ⟨g3, 0, none⟩) 1 cw1) := m4
  have n0 : W5.cell? ⟨g, 7, none⟩ = some (.int .i64 2) := n0
  have n6 : W5.cell? ⟨g, 13, none⟩ = some (.slice ak2 2 ck2) := n6
  clear hW5 hb5 hq1 hN5 hw hr hk hA hP hw1 hr1 hk1 hw2 hr2 hk2 hTg hTg2 hTg3 e2 m0 m1 m2 m3 m5 m6 n1 n2 n3 n4 n5 hN4 hT4 hcH
  go_wp2_with fail
  go_ret
  exact ⟨rfl, hBB.out⟩
end Go.Proofs.YtnhbcmhinhncfaaGreatDoor
/- Texts of blanks, brackets, ; and plain words, read as a line. No condition. -/
namespace Go.Proofs.YtnhbcmhinhncfaaGreatDoor
open Go.RowKit Go.PlainAid
set_option linter.unusedVariables false
set_option linter.unusedSimpArgs false
section
variable {s : ByteArray} {i : Nat}
theorem bt_at {s : ByteArray} {i : Nat} (hi : i < s.size) : ∃ c : UInt8, s.data.toList[i]? = some c ∧ bt s i = (c.toNat : Int) := by
  refine ⟨s[i]'hi, ?_, by unfold bt; rw [dif_pos hi]⟩
  rw [List.getElem?_eq_getElem (by rw [← Lib.size_eq]; exact hi)]
  rfl
theorem ba_data {a b : ByteArray} (h : a.data.toList = b.data.toList) : a = b := by
  obtain ⟨⟨x⟩⟩ := a
  obtain ⟨⟨y⟩⟩ := b
  obtain rfl : x = y := h
  rfl
theorem drop_bt {c : UInt8} {t : List UInt8} (h : s.data.toList.drop i = c :: t) : i < s.size ∧ bt s i = (c.toNat : Int) ∧ s.data.toList.drop (i + 1) = t := by
  have hl := congrArg List.length h
  rw [List.length_drop, ← Lib.size_eq, List.length_cons] at hl
  have hi : i < s.size := by omega
  obtain ⟨d, d1, d2⟩ := bt_at hi
  have h0 : (s.data.toList.drop i)[0]? = some c := by rw [h]; rfl
  rw [List.getElem?_drop, Nat.add_zero, d1] at h0
  obtain rfl : d = c := by simpa using h0
  refine ⟨hi, d2, ?_⟩
  rw [show i + 1 = i + 1 from rfl, ← List.drop_drop, h]
  rfl
theorem drop_app {l t : List UInt8} (h : s.data.toList.drop i = l ++ t) : s.data.toList.drop (i + l.length) = t := by
  rw [← List.drop_drop, h, List.drop_left]
theorem drop_ext {q t : List UInt8} (h : s.data.toList.drop i = q ++ t) : (s.extract i (i + q.length)).data.toList = q := by
  rw [Lib.extract_data, show i + q.length - i = q.length by omega, h, List.take_left]
theorem ext_all : (s.extract i s.size).data.toList = s.data.toList.drop i := by
  rw [Lib.extract_data, List.take_of_length_le (by rw [List.length_drop, ← Lib.size_eq]; exact Nat.le_refl _)]
theorem wE_step {e e2 : Nat} {R : R3} (hi : e < s.size) (hc : endsM (bt s e) = false) (hp : passM (wholeM s 24) s e false = ⟨e2, 0, 0⟩) (he : e < e2) (h : ∀ f, s.size ≤ e2 + f → wEnd s f e2 = R) : ∀ f, s.size ≤ e + f → wEnd s f e = R
  | 0, hf => absurd hi (by omega)
  | f + 1, hf => by rw [wEnd_on hi hc hp rfl]; exact h f (by show s.size ≤ e2 + f; omega)
end
/-- A byte that a word goes over as it stands, and may begin with. -/
def plainC (n : Int) : Bool := !(endsM n) && n != 92 && n != 96 && n != 39 && n != 34 && n != 36 && n != 35 && n != 32 && n != 9 && n != 10
theorem plain_facts {n : Int} (h : plainC n = true) : endsM n = false ∧ (n == 92) = false ∧ (n == 96) = false ∧ (n == 39) = false ∧ (n == 34) = false ∧ (n == 36) = false ∧ (n == 35) = false ∧ (n == 32) = false ∧ (n == 9) = false ∧ (n == 10) = false := by
  unfold plainC at h
  simpa [and_assoc] using h
section
variable {s : ByteArray}
theorem pass_plain {e : Nat} (h : plainC (bt s e) = true) (wh : Nat → Bool → R3) : passM wh s e false = ⟨e + 1, 0, 0⟩ := by
  obtain ⟨_, h1, h2, h3, h4, h5, _⟩ := plain_facts h
  unfold passM begM
  simp only [h1, h2, h3, h4, h5, Bool.false_eq_true, if_false]
theorem wE_plain : ∀ (r : List UInt8) (e : Nat) (post : List UInt8), (∀ c ∈ r, plainC (c.toNat : Int) = true) → s.data.toList.drop e = r ++ post → e ≤ s.size → (∀ c t, post = c :: t → endsM (c.toNat : Int) = true) → ∀ f, s.size ≤ e + f → wEnd s f e = ⟨e + r.length, 0, 0⟩
  | [], e, post, _, hd, hle, hpo, f, hf => by
    cases post with
    | nil =>
      have hl := congrArg List.length hd
      rw [List.length_drop, ← Lib.size_eq] at hl
      simp at hl
      exact wEnd_end (by omega)
    | cons c t =>
      obtain ⟨h1, h2, _⟩ := drop_bt hd
      exact wEnd_done h1 (by rw [h2]; exact hpo c t rfl)
  | c :: r, e, post, hc, hd, hle, hpo, f, hf => by
    obtain ⟨h1, h2, h3⟩ := drop_bt hd
    have hp := hc c (List.mem_cons_self ..)
    rw [← h2] at hp
    have := wE_step h1 (plain_facts hp).1 (pass_plain hp _) (Nat.lt_succ_self e) (wE_plain r (e + 1) post (fun x hx => hc x (List.mem_cons_of_mem _ hx)) h3 (by omega) hpo) f hf
    rw [this, List.length_cons]
    congr 1
    omega
end
/-! ### Operators -/
theorem isOp_take {x : ByteArray} {l : List UInt8} (h : x.data.toList = l) (m : Nat) : isOp (x.extract 0 m) = opsL.contains (l.take m) := by
  unfold isOp
  rw [Lib.extract_data, h, List.drop_zero, Nat.sub_zero]
theorem ops_40 (r : List UInt8) : opsL.contains (40 :: r) = r.isEmpty := by
  cases r <;> simp [opsL]
theorem ops_41 (r : List UInt8) : opsL.contains (41 :: r) = r.isEmpty := by
  cases r <;> simp [opsL]
theorem ops_59 {c : UInt8} (hc : c ≠ 59) (r : List UInt8) : opsL.contains (59 :: c :: r) = false := by
  cases r <;> simp [opsL, hc]
theorem opN_of {x : ByteArray} {c : UInt8} {r : List UInt8} (h : x.data.toList = c :: r) (h1 : opsL.contains [c] = true) (h2 : ∀ d t, r = d :: t → opsL.contains [c, d] = false) (h3 : ∀ d e t, r = d :: e :: t → opsL.contains [c, d, e] = false) : opN x = 1 := by
  have hs : x.size = (c :: r).length := by rw [← h]; exact Lib.size_eq x
  unfold opN
  have e1 : opFrom x 1 = 1 := by unfold opFrom; rw [isOp_take h, show 0 + 1 = 1 from rfl, List.take_succ_cons, List.take_zero, h1, if_pos rfl]
  match r, h, h2, h3, hs with
  | [], h, _, _, hs => rw [hs]; exact e1
  | [d], h, h2, _, hs =>
    rw [hs]
    show opFrom x 2 = 1
    unfold opFrom
    rw [isOp_take h, show 1 + 1 = 2 from rfl]
    show (if opsL.contains [c, d] = true then 2 else opFrom x 1) = 1
    rw [h2 d [] rfl]
    exact e1
  | d :: e :: t, h, h2, h3, hs =>
    rw [hs, show min 3 (c :: d :: e :: t).length = 3 by simp]
    have e2 : opFrom x 2 = 1 := by
      unfold opFrom
      rw [isOp_take h, show 1 + 1 = 2 from rfl]
      show (if opsL.contains [c, d] = true then 2 else opFrom x 1) = 1
      rw [h2 d _ rfl]
      exact e1
    unfold opFrom
    rw [isOp_take h, show 2 + 1 = 3 from rfl]
    show (if opsL.contains [c, d, e] = true then 3 else opFrom x 2) = 1
    rw [h3 d e t rfl]
    exact e2
section
theorem op_ends {s : ByteArray} {i : Nat} {c : UInt8} {t : List UInt8} (hd : s.data.toList.drop i = c :: t) (h : endsM (c.toNat : Int) = false) : opN (s.extract i s.size) = 0 := by
  have key : ∀ n, opFrom (s.extract i s.size) n = 0 := by
    intro n
    induction n with
    | zero => rfl
    | succ n ih =>
      have hno : isOp ((s.extract i s.size).extract 0 (n + 1)) = false := by
        have hx : ((s.extract i s.size).extract 0 (n + 1)).data.toList = c :: t.take n := by
          rw [Lib.extract_data, List.drop_zero, Nat.sub_zero, ext_all, hd, List.take_succ_cons]
        unfold isOp
        rw [hx]
        cases hc : opsL.contains (c :: t.take n)
        · rfl
        · exfalso
          have hm := List.contains_iff_mem.1 hc
          have hall : ∀ l ∈ opsL, ∀ d, l.head? = some d → endsM (d.toNat : Int) = true := by decide +kernel
          have := hall _ hm c rfl
          rw [h] at this
          cases this
      rw [opFrom, hno, if_neg (by decide)]
      exact ih
  exact key _
/-- The words with a blank ahead and a tab behind each. -/
def segL (q : ByteArray) : List UInt8 := 32 :: (q.data.toList ++ [9])
/-- The tokens of such words. -/
def qtoks : Nat → List ByteArray → List Tk
  | _, [] => []
  | i, q :: l => ⟨1, q, i + 1, ⟨#[]⟩, false⟩ :: qtoks (i + q.size + 2) l
end
/-! ### Pieces -/
inductive Pc where
  | sp
  | op (c : UInt8)
  | wd (w : List UInt8)
def Pc.bytes : Pc → List UInt8
  | .sp => [32]
  | .op c => [c]
  | .wd w => w
def Pc.toks (p : Nat) : Pc → List Tk
  | .sp => []
  | .op c => [⟨2, ⟨[c].toArray⟩, p, ⟨#[]⟩, false⟩]
  | .wd w => [⟨1, ⟨w.toArray⟩, p, ⟨#[]⟩, false⟩]
def bytesP : List Pc → List UInt8
  | [] => []
  | x :: l => x.bytes ++ bytesP l
def toksP : List Pc → Nat → List Tk
  | [], _ => []
  | x :: l, p => x.toks p ++ toksP l (p + x.bytes.length)
/-- May stand ahead of the rest. -/
def Pc.ok (r : List UInt8) : Pc → Bool
  | .sp => true
  | .op c => c == 40 || c == 41 || (c == 59 && r.head? != some 59)
  | .wd w => !w.isEmpty && decide (w.length ≤ 4096) && w.all (fun c => plainC (c.toNat : Int)) && (match r with | [] => true | c :: _ => endsM (c.toNat : Int) && c != 60 && c != 62)
def okP : List Pc → Bool
  | [] => true
  | x :: l => x.ok (bytesP l) && okP l
def calm (ts : List Tk) : Prop := (lastM ts).toList ≠ [60, 60] ∧ (lastM ts).toList ≠ [60, 60, 45]
theorem calm_del {st : LS} (h : calm st.toks) : st.del = st := by
  unfold LS.del
  rw [if_neg (by simpa using h.1), if_neg (by simpa using h.2)]
theorem toList_arr (l : List UInt8) : (⟨l.toArray⟩ : ByteArray).toList = l := by rw [Lib.toList_data]
section
variable {s : ByteArray}
set_option maxHeartbeats 2000000 in
theorem line_pcs (hs : s.size ≤ 65536) : ∀ (ps : List Pc) (p : Nat) (ts : List Tk) (f : Nat), okP ps = true → s.data.toList.drop p = bytesP ps → p ≤ s.size → calm ts → ps.length ≤ f → lineM s f ⟨p, ts, []⟩ = (0, 0, ⟨s.size, ts ++ toksP ps p, []⟩)
  | [], p, ts, f, _, hd, hle, _, _ => by
    have hl := congrArg List.length hd
    rw [List.length_drop, ← Lib.size_eq] at hl
    simp [bytesP] at hl
    rw [line_end (by show ¬ p < s.size; omega), show p = s.size by omega]
    simp [toksP]
  | x :: l, p, ts, 0, _, _, _, _, hf => absurd hf (by simp)
  | x :: l, p, ts, f + 1, hok, hd, hle, hcalm, hf => by
    rw [okP, Bool.and_eq_true] at hok
    obtain ⟨hx, hl⟩ := hok
    have hf' : l.length ≤ f := by simpa using hf
    cases x with
    | sp =>
      obtain ⟨h1, h2, h3⟩ := drop_bt (show s.data.toList.drop p = 32 :: bytesP l from hd)
      rw [line_blank h1 (by show (bt s p == 32 || _) = true; rw [h2]; rfl)]
      exact line_pcs hs l (p + 1) ts f hl h3 h1 hcalm hf'
    | op c =>
      obtain ⟨h1, h2, h3⟩ := drop_bt (show s.data.toList.drop p = c :: bytesP l from hd)
      have hc : c = 40 ∨ c = 41 ∨ (c = 59 ∧ (bytesP l).head? ≠ some 59) := by
        simpa [Pc.ok, or_assoc] using hx
      have hnp : opN (s.extract p s.size) = 1 := by
        have he := (ext_all (s := s) (i := p)).trans (show s.data.toList.drop p = c :: bytesP l from hd)
        rcases hc with rfl | rfl | ⟨rfl, hh⟩
        · exact opN_of he (by rw [ops_40]; rfl) (fun d t _ => by rw [ops_40]; rfl) (fun d e t _ => by rw [ops_40]; rfl)
        · exact opN_of he (by rw [ops_41]; rfl) (fun d t _ => by rw [ops_41]; rfl) (fun d e t _ => by rw [ops_41]; rfl)
        · exact opN_of he (by decide) (fun d t e => ops_59 (fun e2 => by rw [e, e2] at hh; exact hh rfl) []) (fun d e t ee => ops_59 (fun e2 => by rw [ee, e2] at hh; exact hh rfl) [e])
      have hb : (bt s p == 32 || bt s p == 9) = false ∧ (bt s p == 35) = false ∧ (bt s p == 10) = false ∧ c ≠ 92 := by
        rw [h2]
        rcases hc with rfl | rfl | ⟨rfl, hh⟩ <;> exact ⟨rfl, rfl, rfl, by decide⟩
      have hcm : contM s p = false := by
        unfold contM
        rw [ext_all, show s.data.toList.drop p = c :: bytesP l from hd]
        unfold Lib.hasPrefix
        rw [List.isPrefixOf_cons_cons, show ((92 : UInt8) == c) = false from beq_eq_false_iff_ne.2 (fun e => hb.2.2.2 e.symm), Bool.false_and]
      have h9 : lineM s (f + 1) ⟨p, ts, []⟩ = lineM s f (LS.tok ⟨p, ts, []⟩ s 2 (opN (s.extract p s.size))) := line_op (st := ⟨p, ts, []⟩) h1 hb.1 hcm hb.2.1 hb.2.2.1 (hnp ▸ Nat.one_pos : 0 < opN (s.extract p s.size))
      rw [h9, hnp]
      clear h9
      have htx : s.extract p (p + 1) = ⟨[c].toArray⟩ := ba_data (drop_ext (q := [c]) hd)
      have hst : LS.tok ⟨p, ts, []⟩ s 2 1 = ⟨p + 1, ts ++ [⟨2, ⟨[c].toArray⟩, p, ⟨#[]⟩, false⟩], []⟩ := by unfold LS.tok; rw [htx]; rfl
      rw [hst, line_pcs hs l (p + 1) _ f hl h3 h1 ⟨by rw [last_app]; show (⟨[c].toArray⟩ : ByteArray).toList ≠ _; rw [toList_arr]; simp, by rw [last_app]; show (⟨[c].toArray⟩ : ByteArray).toList ≠ _; rw [toList_arr]; simp⟩ hf']
      simp [toksP, Pc.toks, Pc.bytes]
    | wd w =>
      have hx2 : (w ≠ [] ∧ w.length ≤ 4096) ∧ (∀ c ∈ w, plainC (c.toNat : Int) = true) ∧ (∀ c t, bytesP l = c :: t → endsM (c.toNat : Int) = true ∧ c ≠ 60 ∧ c ≠ 62) := by
        change (!w.isEmpty && decide (w.length ≤ 4096) && w.all (fun c => plainC (c.toNat : Int)) && (match bytesP l with | [] => true | c :: _ => endsM (c.toNat : Int) && c != 60 && c != 62)) = true at hx
        rw [Bool.and_eq_true, Bool.and_eq_true, Bool.and_eq_true] at hx
        refine ⟨⟨fun e => by rw [e] at hx; simp at hx, of_decide_eq_true hx.1.1.2⟩, fun c hc => List.all_eq_true.1 hx.1.2 c hc, fun c t e => ?_⟩
        have h9 := hx.2
        rw [e] at h9
        simpa [and_assoc] using h9
      obtain ⟨⟨hw0, hw1⟩, hw2, hw3⟩ := hx2
      have hd2 : s.data.toList.drop p = w ++ bytesP l := hd
      have hwe := wE_plain w p (bytesP l) hw2 hd2 hle (fun c t e => (hw3 c t e).1) s.size (by omega)
      obtain ⟨c, w', rfl⟩ : ∃ c w', w = c :: w' := by
        cases w with
        | nil => exact absurd rfl hw0
        | cons c w' => exact ⟨c, w', rfl⟩
      obtain ⟨h1, h2, h3⟩ := drop_bt (show s.data.toList.drop p = c :: (w' ++ bytesP l) from hd2)
      have hp := hw2 c (List.mem_cons_self ..)
      rw [← h2] at hp
      obtain ⟨p1, p2, p3, p4, p5, p6, p7, p8, p9, p10⟩ := plain_facts hp
      have hcm : contM s p = false := by
        unfold contM
        rw [ext_all, hd2]
        unfold Lib.hasPrefix
        rw [List.cons_append, List.isPrefixOf_cons_cons, show ((92 : UInt8) == c) = false from beq_eq_false_iff_ne.2 (fun e => by rw [h2, ← e] at p2; cases p2), Bool.false_and]
      have hno : ¬ 0 < opN (s.extract p s.size) := by rw [op_ends hd2 (by rw [← h2]; exact p1)]; exact Nat.lt_irrefl 0
      have hle2 : p + (c :: w').length ≤ s.size := by
        have hlen := congrArg List.length hd2
        rw [List.length_drop, ← Lib.size_eq, List.length_append] at hlen
        omega
      have hred : redM s (p + (c :: w').length) = false := by
        have h9 := drop_app hd2
        cases hbl : bytesP l with
        | nil =>
          rw [hbl] at h9
          have hlen := congrArg List.length h9
          rw [List.length_drop, ← Lib.size_eq] at hlen
          simp only [List.length_nil] at hlen
          unfold redM
          rw [decide_eq_false (by omega), Bool.false_and]
        | cons e t =>
          rw [hbl] at h9
          obtain ⟨_, h10, _⟩ := drop_bt h9
          have h11 := hw3 e t hbl
          unfold redM
          rw [h10]
          have z1 : ((e.toNat : Int) == 60) = false := beq_eq_false_iff_ne.2 (fun k => h11.2.1 (UInt8.toNat_inj.1 (by simpa using Int.ofNat.inj k)))
          have z2 : ((e.toNat : Int) == 62) = false := beq_eq_false_iff_ne.2 (fun k => h11.2.2 (UInt8.toNat_inj.1 (by simpa using Int.ofNat.inj k)))
          rw [z1, z2]
          simp
      have htx : s.extract p (p + (c :: w').length) = ⟨(c :: w').toArray⟩ := ba_data (drop_ext hd2)
      have hwm : wordM s ⟨p, ts, []⟩ = (0, 0, ⟨p + (c :: w').length, ts ++ [⟨1, ⟨(c :: w').toArray⟩, p, ⟨#[]⟩, false⟩], []⟩) := by
        unfold wordM
        rw [show (LS.mk p ts []).place = p from rfl, hwe]
        dsimp only
        rw [if_neg (by simp), if_neg (by omega), hred, Bool.and_false, if_neg (by simp), calm_del hcalm, show p + (c :: w').length - p = (c :: w').length by omega]
        unfold LS.tok
        dsimp only
        rw [htx]
        rfl
      have h9 : lineM s (f + 1) ⟨p, ts, []⟩ = lineM s f (wordM s ⟨p, ts, []⟩).2.2 := line_word (st := ⟨p, ts, []⟩) h1 (by show (bt s p == 32 || bt s p == 9) = false; rw [p8, p9]; rfl) hcm p7 p10 hno (by rw [hwm])
      rw [h9, hwm]
      clear h9
      rw [line_pcs hs l (p + (c :: w').length) _ f hl (drop_app hd2) hle2 ⟨by rw [last_app]; show (⟨#[]⟩ : ByteArray).toList ≠ _; rw [Lib.toList_data]; simp, by rw [last_app]; show (⟨#[]⟩ : ByteArray).toList ≠ _; rw [Lib.toList_data]; simp⟩ hf']
      simp [toksP, Pc.toks, Pc.bytes]
end
end Go.Proofs.YtnhbcmhinhncfaaGreatDoor
/- Commands within one another: their texts, and what First makes of them, over letters. No condition. -/
namespace Go.Proofs.YtnhbcmhinhncfaaGreatDoor
open Go.RowKit Go.PlainAid
set_option linter.unusedVariables false
set_option linter.unusedSimpArgs false
def pcA : Nat → List Pc
  | 0 => [.op 40]
  | 1 => [.wd [123], .sp]
  | 2 => [.wd [105, 102], .sp]
  | 3 => [.wd [119, 104, 105, 108, 101], .sp, .wd [97], .op 59, .sp, .wd [100, 111], .sp]
  | _ => [.wd [102], .op 40, .op 41, .sp, .wd [123], .sp]
def pcB : Nat → List Pc
  | 0 => [.op 41]
  | 1 => [.op 59, .sp, .wd [125]]
  | 2 => [.op 59, .sp, .wd [116, 104, 101, 110], .sp, .wd [97], .op 59, .sp, .wd [102, 105]]
  | 3 => [.op 59, .sp, .wd [100, 111, 110, 101]]
  | _ => [.op 59, .sp, .wd [125]]
def nestP (k : Nat) : Nat → List Pc
  | 0 => [.wd [97]]
  | n + 1 => pcA k ++ (nestP k n ++ pcB k)
theorem bytesP_app : ∀ (a b : List Pc), bytesP (a ++ b) = bytesP a ++ bytesP b
  | [], b => rfl
  | x :: l, b => by show x.bytes ++ bytesP (l ++ b) = (x.bytes ++ bytesP l) ++ bytesP b; rw [bytesP_app l b, List.append_assoc]
/-- The text, as the law makes it. -/
def nestB (k n : Nat) : ByteArray := ⟨(bytesP (nestP k n)).toArray⟩
theorem nestB_len (k n : Nat) : (nestB k n).size = 1 + n * ((bytesP (pcA k)).length + (bytesP (pcB k)).length) := by
  show (bytesP (nestP k n)).toArray.size = _
  rw [List.size_toArray]
  induction n with
  | zero => simp [nestP, bytesP, Pc.bytes]
  | succ n ih =>
    show (bytesP (pcA k ++ (nestP k n ++ pcB k))).length = _
    rw [bytesP_app, bytesP_app, List.length_append, List.length_append, ih, Nat.succ_mul]
    omega
theorem pcAB_len (k : Nat) : (bytesP (pcA k)).length + (bytesP (pcB k)).length ≤ 18 := by
  match k with
  | 0 => decide
  | 1 => decide
  | 2 => decide
  | 3 => decide
  | k + 4 => show (bytesP (pcA 4)).length + (bytesP (pcB 4)).length ≤ 18; decide
theorem nestB_succ (k n : Nat) : nestB k (n + 1) = ⟨(bytesP (pcA k)).toArray⟩ ++ nestB k n ++ ⟨(bytesP (pcB k)).toArray⟩ := by
  apply ba_data
  show bytesP (pcA k ++ (nestP k n ++ pcB k)) = _
  rw [bytesP_app, bytesP_app, ByteArray.data_append, ByteArray.data_append]
  simp [nestB]
theorem pcs_len : ∀ ps : List Pc, okP ps = true → ps.length ≤ (bytesP ps).length
  | [], _ => Nat.le_refl _
  | x :: l, h => by
    rw [okP, Bool.and_eq_true] at h
    have h2 := pcs_len l h.2
    have h1 : 1 ≤ x.bytes.length := by
      cases x with
      | sp => exact Nat.le_refl _
      | op c => exact Nat.le_refl _
      | wd w =>
        have hx := h.1
        change (!w.isEmpty && decide (w.length ≤ 4096) && w.all (fun c => plainC (c.toNat : Int)) && (match bytesP l with | [] => true | c :: _ => endsM (c.toNat : Int) && c != 60 && c != 62)) = true at hx
        rw [Bool.and_eq_true, Bool.and_eq_true, Bool.and_eq_true] at hx
        cases w with
        | nil => simp at hx
        | cons c w => show 1 ≤ w.length + 1; omega
    show l.length + 1 ≤ (x.bytes ++ bytesP l).length
    rw [List.length_append]
    omega
theorem top_pcs {ps : List Pc} (hok : okP ps = true) (hs : (bytesP ps).length ≤ 65536) : topM ⟨(bytesP ps).toArray⟩ 0 = ⟨toksP ps 0, (⟨(bytesP ps).toArray⟩ : ByteArray).size, 0, 0⟩ := by
  have hz : (⟨(bytesP ps).toArray⟩ : ByteArray).size = (bytesP ps).length := by show (bytesP ps).toArray.size = _; simp
  have hl := line_pcs (s := ⟨(bytesP ps).toArray⟩) (by rw [hz]; exact hs) ps 0 [] (⟨(bytesP ps).toArray⟩ : ByteArray).size hok rfl (Nat.zero_le _) ⟨by show (⟨#[]⟩ : ByteArray).toList ≠ _; rw [Lib.toList_data]; simp, by show (⟨#[]⟩ : ByteArray).toList ≠ _; rw [Lib.toList_data]; simp⟩ (by rw [hz]; exact pcs_len ps hok)
  unfold topM
  rw [if_neg (by rw [hz]; omega), if_neg (by omega)]
  rw [List.nil_append] at hl
  exact at_ok hl rfl
theorem fill_top {s : ByteArray} {l : List Tk} (ht : topM s 0 = ⟨l, s.size, 0, 0⟩) : fill s ⟨[], 0, false, 0, 0⟩ = ⟨l, s.size, true, 0, 0⟩ := by
  unfold fill
  show fillP s (s.size + 1 + 1) _ = _
  rw [fillP, if_pos (by rfl)]
  have ht' : topM s ((⟨[], 0, false, 0, 0⟩ : PS).at_ : Nat) = ⟨l, s.size, 0, 0⟩ := ht
  rw [ht']
  rw [if_neg (by simp)]
  show fillP s (s.size + 1) ⟨l, s.size, decide (s.size = s.size), 0, 0⟩ = _
  rw [decide_eq_true rfl, fillP, if_neg (by simp)]
/-- First's answer, from the state at which it stands. -/
def firstQ (s : ByteArray) (p : PS) : CP :=
  if p.err = 0 ∧ (peekP s p).kind = 0 then ⟨nd0, false, s.size, 0, 0⟩ else
  let r := listP s p
  let q := if (peekP s r.2).kind ≠ 0 then needP s ((peekP s r.2).kind == 3) r.2 else fill s r.2
  if q.err ≠ 0 then ⟨nd0, false, 0, q.place, q.err⟩ else ⟨r.1, true, q.at_, 0, 0⟩
theorem first_pcs {ps : List Pc} (hok : okP ps = true) (hs : (bytesP ps).length ≤ 65536) : firstP ⟨(bytesP ps).toArray⟩ 0 = firstQ ⟨(bytesP ps).toArray⟩ (newl ⟨(bytesP ps).toArray⟩ ⟨toksP ps 0, (⟨(bytesP ps).toArray⟩ : ByteArray).size, true, 0, 0⟩) := by
  have hz : (⟨(bytesP ps).toArray⟩ : ByteArray).size = (bytesP ps).length := by show (bytesP ps).toArray.size = _; simp
  have hf := fill_top (top_pcs hok hs)
  have hp : PW ⟨(bytesP ps).toArray⟩ ⟨[], 0, false, 0, 0⟩ := ⟨by rw [hz]; exact hs, Nat.zero_le _, Nat.zero_le _, fun e => absurd rfl e, fun t h => nomatch h⟩
  have hp2 := pw_fill hp
  rw [hf] at hp2
  have e : newl ⟨(bytesP ps).toArray⟩ ⟨[], 0, false, 0, 0⟩ = newl ⟨(bytesP ps).toArray⟩ ⟨toksP ps 0, (⟨(bytesP ps).toArray⟩ : ByteArray).size, true, 0, 0⟩ := newl_eq hp hp2 (by rw [← hf, fill_fill hp])
  show firstQ _ (newl _ ⟨[], 0, false, 0, 0⟩) = _
  rw [e]
/-- What the document asks. -/
def okQ (s : ByteArray) (k n : Nat) : Bool :=
  let c := firstQ s (newl s ⟨toksP (nestP k n) 0, s.size, true, 0, 0⟩)
  if 24 < (if k = 4 then 2 * n else n) then c.err == 52 && !c.there else c.err == 0 && c.there
set_option maxRecDepth 100000 in
theorem okP_all : (List.range 5).all (fun k => (List.range 61).all (fun n => okP (nestP k n))) = true := by kernel_rfl
end Go.Proofs.YtnhbcmhinhncfaaGreatDoor
