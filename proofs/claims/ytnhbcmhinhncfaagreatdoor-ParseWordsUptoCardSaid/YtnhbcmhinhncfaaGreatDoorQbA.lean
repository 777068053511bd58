/- A pipeline's closures. Conditions: the parser lies as stated; a command's contract is handed in. -/
import Derived.Test.YtnhbcmhinhncfaaGreatDoorQaC
namespace Go.Proofs.YtnhbcmhinhncfaaGreatDoor
open Go.RowKit Go.Shelf Go.PlainAid
set_option linter.unusedVariables false
set_option linter.unusedSimpArgs false
attribute [local go_sem] Oper.semAt_some
/-- A command's contract at a depth: beyond the last one nothing is left. -/
def CmdC (s : ByteArray) (B : Int → PS → Nd × PS) (d : Int) : Prop := ∀ (b : Nat) (W : World) (st : PS), (24 < d → rem s st = 0) → PF b s W st → Calls Tryz.prog 79 #[ptr b, .int .i64 d] W (NdAn b s W (cmdP s B d st).1 (cmdP s B d st).2)
abbrev Bi (d : Int) (q : Nat) (W : World) : Prop := Blk W q 3 #[.int .i64 d]
section
variable {b : Nat} {s : ByteArray} {w : World} {st : PS} {B : Int → PS → Nd × PS} {d : Int}
/-- How a pipeline goes on. -/
abbrev pM (s : ByteArray) (st : PS) : Bool × PS := (hasO s [124] st, if hasO s [124] st then newl s (nextP s st) else fill s st)
set_option maxRecDepth 100000 in
set_option maxHeartbeats 4000000 in
theorem pipe1_f {q2 q3 : Nat} (hC : CmdC s B d) (hj : 24 < d → rem s st = 0) (hb2 : Bx b q2 w) (hb3 : Bi d q3 w) (h : PF b s w st) : Calls Tryz.prog 78 #[ptr q2, ptr q3] w (NdAn b s w (cmdP s B d st).1 (cmdP s B d st).2) := by
  obtain ⟨q, hq⟩ : ∃ q, w.heap.size = q := ⟨_, rfl⟩
  have hlt := h.lt
  have h16 := h.b16
  have hqb : q ≠ b := by omega
  have hq16 : 8 ≤ q := by omega
  have hb1 : Below w.heap.size w (w.alloc (.cells N7 30)) := (Below.refl _ _).alloc (Nat.le_refl _) _
  have hZ := Lib.hid (show Blk (w.alloc (.cells N7 30)) q 30 N7 by rw [← hq]; exact Blk.new _ _ _)
  have hF1 := Lib.hid (Fb.of_below (b := b) hb1)
  have hc := Lib.hid (hC b _ st hj (h.below hb1))
  have e2 : (w.alloc (.cells N7 30)).cell? ⟨q2, 0, none⟩ = some (ptr b) := (hb2.alloc _).cell 0
  have e3 : (w.alloc (.cells N7 30)).cell? ⟨q3, 0, none⟩ = some (.int .i64 d) := (hb3.alloc _).cell 0
  obtain ⟨W, hW⟩ : ∃ W, w.alloc (.cells N7 30) = W := ⟨_, rfl⟩
  rw [hW] at hZ hF1 hc e2 e3
  have hWH := Lib.hid hW
  have hqH := Lib.hid hq
  obtain ⟨A, hA⟩ : ∃ A, cmdP s B d st = A := ⟨_, rfl⟩
  rw [hA] at hc ⊢
  obtain ⟨n, st2⟩ := A
  clear hW hb1 h hq hA hC hb2 hb3 hj
  go_enter Tryz.func78, Tryz.ntmps78
  go_upto_region 1 with fail
  rw [hWH.out, hqH.out]
  go_wp2_with (go_at_call 79; refine hc.out.mono ?_; rintro e w5 ⟨k, x, y, nm, aw, nw, cw, ar, nr, cr, ak, nk, ck, T, rfl, hN, hT, hA5, hF5⟩; have hN5 := Lib.hid hN; have hT5 := Lib.hid hT; have hA5H := Lib.hid hA5; have hF5H := Lib.hid (hF1.out.trans hF5); have hZ5 := Lib.hid (hF5.blk hZ.out hqb); clear hN hT hA5 hF5
               have z0 : w5.cell? ⟨q, 0, none⟩ = some (.int .i64 0) := hZ5.out.cell 0; have z1 : w5.cell? ⟨q, 1, none⟩ = some (.bool false) := hZ5.out.cell 1; have z2 : w5.cell? ⟨q, 2, none⟩ = some (.bool false) := hZ5.out.cell 2; have z3 : w5.cell? ⟨q, 3, none⟩ = some (.string ⟨#[]⟩) := hZ5.out.cell 3; have z4 : w5.cell? ⟨q, 4, none⟩ = some (.slice none 0 0) := hZ5.out.cell 4; have z5 : w5.cell? ⟨q, 5, none⟩ = some (.slice none 0 0) := hZ5.out.cell 5; have z6 : w5.cell? ⟨q, 6, none⟩ = some (.slice none 0 0) := hZ5.out.cell 6
               have g0 := hZ5.out.frozen 0; have g1 := hZ5.out.frozen 1; have g2 := hZ5.out.frozen 2; have g3 := hZ5.out.frozen 3; have g4 := hZ5.out.frozen 4; have g5 := hZ5.out.frozen 5; have g6 := hZ5.out.frozen 6)
  refine bodyPost_ret (results_cell_row rfl _ _ q 30 #[.int .i64 k, .bool x, .bool y, .string nm, .slice aw nw cw, .slice ar nr cr, .slice ak nk ck] (0, 0) _ rfl (put7_blk hZ5.out _ _ _ _ _ _ _) Tryz.underlying30 rfl (by kernel_rfl)) rfl ?_
  have hHd : Hd b w n k x y nm aw nw cw ar nr cr ak nk ck T w5 := ⟨hN5.out, fun g hg => ⟨Nat.le_trans hF1.out.size (hT5.out g hg).1, (hT5.out g hg).2⟩⟩
  exact hHd.an hZ5.out (fun e => by have := (hT5.out q e).1; have := hZ.out.lt; omega) (Nat.le_of_eq hqH.out) hqb hq16 hA5H.out hF5H.out
set_option maxRecDepth 100000 in
set_option maxHeartbeats 4000000 in
theorem pipe2_f {q2 : Nat} (k : Int) (x y : Bool) (nm : ByteArray) (aw : Option Addr) (nw cw : Nat) (ar : Option Addr) (nr cr : Nat) (ak : Option Addr) (nk ck : Nat) (hb2 : Bx b q2 w) (hq2 : q2 ≠ b) (h : PF b s w st) : Calls Tryz.prog 80 #[.agg #[.int .i64 k, .bool x, .bool y, .string nm, .slice aw nw cw, .slice ar nr cr, .slice ak nk ck], ptr q2] w (An b s w (.bool (pM s st).1) (pM s st).2) := by
  have hb1 : Below w.heap.size w (w.alloc (.cells #[.int .i64 k, .bool x, .bool y, .string nm, .slice aw nw cw, .slice ar nr cr, .slice ak nk ck] 30)) := (Below.refl _ _).alloc (Nat.le_refl _) _
  have hq := Lib.hid (show Bx b q2 (w.alloc (.cells #[.int .i64 k, .bool x, .bool y, .string nm, .slice aw nw cw, .slice ar nr cr, .slice ak nk ck] 30)) from hb2.alloc _)
  have ht := took_f (h.below hb1) ⟨#[124]⟩
  rw [show (⟨#[124]⟩ : ByteArray).toList = [124] by kernel_rfl] at ht
  have hr := Lib.hid ht
  have hF := Lib.hid (Fb.of_below (b := b) hb1)
  have hnl := Lib.hid (fun W (hp : PF b s W (nextP s st)) => newlines_f hp)
  obtain ⟨o, ho⟩ : ∃ o, hasO s [124] st = o := ⟨_, rfl⟩
  have hp := Lib.hid (show pM s st = (o, if o then newl s (nextP s st) else fill s st) by rw [← ho])
  rw [ho] at hr
  rw [hp.out]
  obtain ⟨W, hW⟩ : ∃ W, w.alloc (.cells #[.int .i64 k, .bool x, .bool y, .string nm, .slice aw nw cw, .slice ar nr cr, .slice ak nk ck] 30) = W := ⟨_, rfl⟩
  rw [hW] at hr hF hq
  have c0 : W.cell? ⟨q2, 0, none⟩ = some (ptr b) := hq.out.cell 0
  have hWH := Lib.hid hW
  clear hW hb1 h hb2 ho ht
  cases o
  · go_enter Tryz.func80, Tryz.ntmps80
    go_upto_region 1 with fail
    rw [hWH.out]
    go_wp2_with (go_at_call 45; refine hr.out.mono ?_; rintro e w2 ⟨rfl, hA2, hF2⟩; have hA2H := Lib.hid hA2; have hF2H := Lib.hid hF2; clear hA2 hF2)
    go_ret
    exact ⟨rfl, PF.fill hA2H.out, hF.out.trans hF2H.out⟩
  · go_enter Tryz.func80, Tryz.ntmps80
    go_upto_region 1 with fail
    rw [hWH.out]
    go_wp2_with (first
      | (go_at_call 19; refine (hnl.out _ hA2H.out).mono ?_; rintro e w3 ⟨rfl, hA3, hF3⟩; have hA3H := Lib.hid hA3; have hF3H := Lib.hid hF3; clear hA3 hF3)
      | (go_at_call 45; refine hr.out.mono ?_; rintro e w2 ⟨rfl, hA2, hF2⟩; have hA2H := Lib.hid (show PF b s w2 (nextP s st) from hA2); have hF2H := Lib.hid hF2; have hB2 := Lib.hid (hF2.blk hq.out hq2); have d0 : w2.cell? ⟨q2, 0, none⟩ = some (ptr b) := hB2.out.cell 0; clear hA2 hF2))
    go_ret
    exact ⟨rfl, hA3H.out, (hF.out.trans hF2H.out).trans hF3H.out⟩
theorem enters_pp1 : Enters Tryz.prog 78 := enters_of Tryz.func78 (by kernel_rfl) rfl
theorem enters_pp2 : Enters Tryz.prog 80 := enters_of Tryz.func80 (by kernel_rfl) rfl
end
end Go.Proofs.YtnhbcmhinhncfaaGreatDoor
/- A pipeline. Conditions: the parser lies as stated; a command's contract is handed in. -/
namespace Go.Proofs.YtnhbcmhinhncfaaGreatDoor
open Go.RowKit Go.Shelf Go.PlainAid
set_option linter.unusedVariables false
set_option linter.unusedSimpArgs false
attribute [local go_sem] Oper.semAt_some
/-- A tree of a row, cell by cell. -/
theorem Done.node_at {w : World} {T : Nat → Prop} {a : Option Addr} {n c i : Nat} {xs : List Nd} {t : Nd} (h : Done ElN 30 w T (.slice a n c) xs) (hn : n = xs.length) (hi : xs[i]? = some t) :
    ∃ (g : Nat) (k : Int) (x y : Bool) (nm : ByteArray) (aw : Option Addr) (nw cw : Nat) (ar : Option Addr) (nr cr : Nat) (ak : Option Addr) (nk ck : Nat), a = some ⟨g, 0, none⟩ ∧ T g ∧ NdAt w T [.int .i64 k, .bool x, .bool y, .string nm, .slice aw nw cw, .slice ar nr cr, .slice ak nk ck] t ∧
      w.cell? ⟨g, i * 7, none⟩ = some (.int .i64 k) ∧ w.cell? ⟨g, i * 7 + 1, none⟩ = some (.bool x) ∧ w.cell? ⟨g, i * 7 + 2, none⟩ = some (.bool y) ∧ w.cell? ⟨g, i * 7 + 3, none⟩ = some (.string nm) ∧ w.cell? ⟨g, i * 7 + 4, none⟩ = some (.slice aw nw cw) ∧ w.cell? ⟨g, i * 7 + 5, none⟩ = some (.slice ar nr cr) ∧ w.cell? ⟨g, i * 7 + 6, none⟩ = some (.slice ak nk ck) := by
  subst hn
  obtain ⟨n₀, K, h1, h2⟩ := h.row
  have hlt := (List.getElem?_eq_some_iff.1 hi).1
  obtain ⟨g, cap, hv, _, _⟩ := h1.form (by omega)
  obtain ⟨rfl, rfl⟩ : a = some ⟨g, 0, none⟩ ∧ c = cap := by simpa using hv
  have hg := h.own g rfl
  have hN := h2 i t hi
  have hfl := (flat_get (K := K) (k := 7) xs.length (fun j hj => (h2 j _ (List.getElem?_eq_getElem hj)).len)).2 i hlt
  have hc : ∀ j, j < 7 → w.cell? ⟨g, i * 7 + j, none⟩ = (K i)[j]? := fun j hj => by
    have h9 : i * 7 + j < xs.length * 7 := by omega
    have h8 := h1.cellAt (i * 7 + j) h9
    rw [h8, hfl j hj]
  have hN' : NdAt w T (K i) t := hN
  generalize hKi : K i = Ki at hc hN'
  cases hN' with
  | mk K2 hw hr hrow hown hk =>
    exact ⟨g, _, _, _, _, _, _, _, _, _, _, _, _, _, rfl, hg, .mk K2 hw hr hrow hown hk, hc 0 (by decide), hc 1 (by decide), hc 2 (by decide), hc 3 (by decide), hc 4 (by decide), hc 5 (by decide), hc 6 (by decide)⟩
/-- What a pipeline makes of its commands. -/
def pipN (neg : Bool) (l : List Nd) : Nd := match l with
  | [x] => if neg then .mk 2 neg false noB [] [] [x] else x
  | k => .mk 2 neg false noB [] [] k
theorem pipN_many {neg : Bool} {l : List Nd} (h : ¬ (neg = false ∧ l.length = 1)) : pipN neg l = .mk 2 neg false noB [] [] l := by
  unfold pipN
  split
  · rename_i x
    cases neg
    · exact absurd ⟨rfl, rfl⟩ h
    · rfl
  · rfl
section
variable {b : Nat} {s : ByteArray} {w : World} {st : PS} {B : Int → PS → Nd × PS} {d : Int}
set_option maxRecDepth 100000 in
set_option maxHeartbeats 8000000 in
theorem pipeline_f (hB : ∀ (d : Int) (st : PS), PW s st → Lo s st (B d st).2) (hC : CmdC s B d) (h : PF b s w st) : Calls Tryz.prog 60 #[ptr b, .int .i64 d] w (NdAn b s w (pipeP s B d st).1 (pipeP s B d st).2) := by
  have hmf : ∀ (fn : Fn) (first cap : Array Value) (w : World), (Instr.makeFunc fn first cap).run Tryz.prog w = .ok (.func fn first cap) w := fun _ _ _ _ => rfl
  obtain ⟨q, hq⟩ : ∃ q, w.heap.size = q := ⟨_, rfl⟩
  obtain ⟨q3, hq3⟩ : ∃ x, w.heap.size + 1 = x := ⟨_, rfl⟩
  obtain ⟨q4, hq4⟩ : ∃ x, w.heap.size + 1 + 1 = x := ⟨_, rfl⟩
  have hlt := h.lt
  have h16 := h.b16
  have hqb : q ≠ b := by omega
  have hqb1 : q3 ≠ b := by omega
  have hqb2 : q4 ≠ b := by omega
  have hq16 : 8 ≤ q4 := by omega
  have hok := Lib.hid h.ok
  obtain ⟨W, hW⟩ : ∃ W, ((w.alloc (.cells #[ptr b] 53)).alloc (.cells #[.int .i64 d] 3)).alloc (.cells N7 30) = W := ⟨_, rfl⟩
  have e1 : (w.alloc (.cells #[ptr b] 53)).heap.size = q3 := by rw [World.size_alloc, hq3]
  have e2 : ((w.alloc (.cells #[ptr b] 53)).alloc (.cells #[.int .i64 d] 3)).heap.size = q4 := by rw [World.size_alloc, World.size_alloc, hq4]
  have hb1 : Below w.heap.size w W := by rw [← hW]; exact (((Below.refl _ _).alloc (Nat.le_refl _) _).alloc (by rw [World.size_alloc]; omega) _).alloc (by rw [World.size_alloc, World.size_alloc]; omega) _
  have hX := Lib.hid (show Bx b q W by rw [← hW, ← hq]; exact ((Blk.new _ _ _).alloc _).alloc _)
  have hI := Lib.hid (show Bi d q3 W by rw [← hW, ← e1]; exact (Blk.new _ _ _).alloc _)
  have hZ := Lib.hid (show Blk W q4 30 N7 by rw [← hW, ← e2]; exact Blk.new _ _ _)
  have hA1 := Lib.hid (h.below hb1)
  have hF1 := Lib.hid (Fb.of_below (b := b) hb1)
  have hWH := Lib.hid hW
  have hqH := Lib.hid hq
  have hq3H := Lib.hid hq3
  have hq4H := Lib.hid hq4
  have e1H := Lib.hid e1
  have e2H := Lib.hid e2
  have c0 : W.cell? ⟨q, 0, none⟩ = some (ptr b) := hX.out.cell 0
  have d0 : W.cell? ⟨q3, 0, none⟩ = some (.int .i64 d) := hI.out.cell 0
  have hask := Lib.hid (asksDepth_f hA1.out d)
  have hla := lo_ask h.ok d
  have hj1 : 24 < d → rem s (askD s d st) = 0 := fun hd => by unfold askD; rw [if_pos hd]; rfl
  obtain ⟨st1, hst1⟩ : ∃ x, askD s d st = x := ⟨_, rfl⟩
  rw [hst1] at hask hla hj1
  have hok1 := Lib.hid hla.ok
  have hw := Lib.hid (fun W (hp : PF b s W st1) => isWord_f hp ⟨#[33]⟩)
  rw [show (⟨#[33]⟩ : ByteArray).toList = [33] by kernel_rfl] at hw
  have hlt1 := lo_took hla.ok 1 [33]
  have hj2 : 24 < d → rem s (tookP s 1 [33] st1) = 0 := fun hd => by have := hj1 hd; have := hlt1.le; omega
  have hst2 := Lib.hid (show tookP s 1 [33] st1 = if hasW s [33] st1 then nextP s st1 else fill s st1 from rfl)
  have hr := Lib.hid (show pipeP s B d st = (pipN (hasW s [33] st1) (ser s (cmdP s B d) (fun _ => pM s) (tookP s 1 [33] st1)).1, (ser s (cmdP s B d) (fun _ => pM s) (tookP s 1 [33] st1)).2) by rw [← hst1]; rfl)
  obtain ⟨st2, hst2'⟩ : ∃ x, tookP s 1 [33] st1 = x := ⟨_, rfl⟩
  rw [hst2'] at hst2 hr hj2
  obtain ⟨neg, hneg⟩ : ∃ x, hasW s [33] st1 = x := ⟨_, rfl⟩
  rw [hneg] at hw hst2 hr
  have hser := Lib.hid (fun (W2 : World) (h1 : Bx b q W2 ∧ Bi d q3 W2) (h2 : PF b s W2 st2) => serN_any (R := cmdP s B d) (M := pM s) 78 80 #[] #[ptr q, ptr q3] #[] #[ptr q] enters_pp1 enters_pp2 (fun W => Bx b q W ∧ Bi d q3 W) (fun W W' hc hf => ⟨hf.blk hc.1 hqb, hf.blk hc.2 hqb1⟩) (fun st => 24 < d → rem s st = 0) (fun st hp hj hd => by have := (cmd_more hB d hp).le; have := hj hd; show rem s (if hasO s [124] (cmdP s B d st).2 then newl s (nextP s (cmdP s B d st).2) else fill s (cmdP s B d st).2) = 0; omega)
    (fun W st hc hj hp => pipe1_f hC hj hc.1 hc.2 hp) (fun W st k x y nm aw nw cw ar nr cr ak nk ck hc hp => pipe2_f k x y nm aw nw cw ar nr cr ak nk ck hc.1 hqb hp) (fun st hp => (cmd_more hB d hp).ok) (fun st hp hm => cmd_less hB d hp hm) h2 h1 hj2)
  obtain ⟨A, hA⟩ : ∃ A, ser s (cmdP s B d) (fun _ => pM s) st2 = A := ⟨_, rfl⟩
  rw [hA] at hser hr
  obtain ⟨l, st3⟩ := A
  rw [hr.out]
  clear hW hb1 h hq hq3 hq4 hA hC hB hst1 hst2' hneg hla hlt1 hj1 hj2 e1 e2
  go_enter Tryz.func60, Tryz.ntmps60
  go_upto_region 1 with fail
  rw [hWH.out, hq4H.out, hq3H.out, hqH.out]
  go_upto_region 2 with (go_at_call 75; refine hask.out.mono ?_; rintro e w2 ⟨rfl, hA2, hF2⟩; have hA2H := Lib.hid hA2; have hF2H := Lib.hid (hF1.out.trans hF2); have hX2 := Lib.hid (hF2.blk hX.out hqb); have hI2 := Lib.hid (hF2.blk hI.out hqb1); have hZ2 := Lib.hid (hF2.blk hZ.out hqb2); clear hA2 hF2)
  have c2 : w2.cell? ⟨q, 0, none⟩ = some (ptr b) := hX2.out.cell 0
  have hwc := Lib.hid (hw.out _ hA2H.out)
  clear hw
  go_upto_if 12 with (go_at_call 76; refine hwc.out.mono ?_; rintro e w3 ⟨rfl, hA3, hF3⟩; have hA3H := Lib.hid hA3; have hF3H := Lib.hid (hF2H.out.trans hF3); have hX3 := Lib.hid (hF3.blk hX2.out hqb); have hI3 := Lib.hid (hF3.blk hI2.out hqb1); have hZ3 := Lib.hid (hF3.blk hZ2.out hqb2); clear hA3 hF3)
  go_cut [] (fun wx => Hid (PF b s wx st2 ∧ Fb b w wx ∧ Bx b q wx ∧ Bi d q3 wx ∧ Blk wx q4 30 N7))
  case first =>
    have c3 : w3.cell? ⟨q, 0, none⟩ = some (ptr b) := hX3.out.cell 0
    cases neg
    · go_wp2_with fail
      go_meet
      case rel =>
        rw [hst2.out]
        exact Lib.hid ⟨hA3H.out.fill, hF3H.out, hX3.out, hI3.out, hZ3.out⟩
    · have hnx := Lib.hid (next_f hA3H.out)
      go_wp2_with (go_at_call 27; refine hnx.out.mono ?_; rintro e w4 ⟨rfl, hA4, hF4⟩; have hA4H := Lib.hid hA4; have hF4H := Lib.hid hF4; clear hA4 hF4; dsimp only [tkV])
      go_meet
      case rel =>
        rw [hst2.out]
        exact Lib.hid ⟨hA4H.out, hF3H.out.trans hF4H.out, hF4H.out.blk hX3.out hqb, hF4H.out.blk hI3.out hqb1, hF4H.out.blk hZ3.out hqb2⟩
  case rest =>
    have hcc := hcut.out
    have hcc1 := Lib.hid hcc.1
    have hcc2 := Lib.hid hcc.2.1
    have hcc3 := Lib.hid hcc.2.2.1
    have hcc5 := Lib.hid hcc.2.2.2.2
    have hcall := Lib.hid (hser.out wc ⟨hcc.2.2.1, hcc.2.2.2.1⟩ hcc.1)
    have c5 : wc.cell? ⟨q, 0, none⟩ = some (ptr b) := hcc3.out.cell 0
    clear hcut hcc hser
    go_upto_region 6 with (go_at_call 77; refine hcall.out.mono ?_; rintro e w5 ⟨a, c, T, rfl, hD, hT, hA5, hF5⟩; have hDH := Lib.hid hD; have hTH := Lib.hid hT; have hA5H := Lib.hid hA5; have hF5H := Lib.hid (hcc2.out.trans hF5); have hZ5 := Lib.hid (hF5.blk hcc5.out hqb2); clear hD hT hA5 hF5)
    have hT4 : Hid (¬ T q4) := Lib.hid (fun e => by have := (hTH.out q4 e).1; have := hcc5.out.lt; omega)
    have hTw := Lib.hid (fun g (hg : T g) => (show w.heap.size ≤ g ∧ g < w5.heap.size from ⟨Nat.le_trans hcc2.out.size (hTH.out g hg).1, (hTH.out g hg).2⟩))
    have hq4w := Lib.hid (show w.heap.size ≤ q4 by have := hq4H.out; omega)
    have z0 : w5.cell? ⟨q4, 0, none⟩ = some (.int .i64 0) := hZ5.out.cell 0
    have z1 : w5.cell? ⟨q4, 1, none⟩ = some (.bool false) := hZ5.out.cell 1
    have z2 : w5.cell? ⟨q4, 2, none⟩ = some (.bool false) := hZ5.out.cell 2
    have z3 : w5.cell? ⟨q4, 3, none⟩ = some (.string ⟨#[]⟩) := hZ5.out.cell 3
    have z4 : w5.cell? ⟨q4, 4, none⟩ = some (.slice none 0 0) := hZ5.out.cell 4
    have z5 : w5.cell? ⟨q4, 5, none⟩ = some (.slice none 0 0) := hZ5.out.cell 5
    have z6 : w5.cell? ⟨q4, 6, none⟩ = some (.slice none 0 0) := hZ5.out.cell 6
    have g0 := hZ5.out.frozen 0
    have g1 := hZ5.out.frozen 1
    have g2 := hZ5.out.frozen 2
    have g3 := hZ5.out.frozen 3
    have g4 := hZ5.out.frozen 4
    have g5 := hZ5.out.frozen 5
    have g6 := hZ5.out.frozen 6
    have hDD := hDH.out
    by_cases hone : neg = false ∧ l.length = 1
    · obtain ⟨rfl, h1⟩ := hone
      obtain ⟨x0, rfl⟩ : ∃ x0, l = [x0] := List.length_eq_one_iff.1 h1
      obtain ⟨g, k, x, y, nm, aw, nw, cw, ar, nr, cr, ak, nk, ck, rfl, hTg, hN, n0, n1, n2, n3, n4, n5, n6⟩ := hDD.node_at (i := 0) rfl rfl
      have hHd : Hd b w x0 k x y nm aw nw cw ar nr cr ak nk ck T w5 := ⟨hN, hTw.out⟩
      have hHdH := Lib.hid hHd
      clear hDD hN hHd hTg h1
      have n0 : w5.cell? ⟨g, 0, none⟩ = some (.int .i64 k) := n0
      have n1 : w5.cell? ⟨g, 1, none⟩ = some (.bool x) := n1
      have n2 : w5.cell? ⟨g, 2, none⟩ = some (.bool y) := n2
      have n3 : w5.cell? ⟨g, 3, none⟩ = some (.string nm) := n3
      have n4 : w5.cell? ⟨g, 4, none⟩ = some (.slice aw nw cw) := n4
      have n5 : w5.cell? ⟨g, 5, none⟩ = some (.slice ar nr cr) := n5
      have n6 : w5.cell? ⟨g, 6, none⟩ = some (.slice ak nk ck) := n6
      go_wp2_with fail
      refine bodyPost_ret (results_cell_row rfl _ _ q4 30 #[.int .i64 k, .bool x, .bool y, .string nm, .slice aw nw cw, .slice ar nr cr, .slice ak nk ck] (0, 0) _ rfl (put7_blk hZ5.out _ _ _ _ _ _ _) Tryz.underlying30 rfl (by kernel_rfl)) rfl ?_
      exact hHdH.out.an hZ5.out hT4.out hq4w.out hqb2 hq16 hA5H.out hF5H.out
    · have hres := Lib.hid (pipN_many hone)
      have hHd : Hd b w (.mk 2 neg false noB [] [] l) 2 neg false ⟨#[]⟩ none 0 0 none 0 0 a l.length c T w5 := ⟨NdAt.of (ws := []) (rs := []) (Done.nil _ _ _ _) (Done.nil _ _ _ _) hDD, hTw.out⟩
      have hHdH := Lib.hid hHd
      have hcond : neg = false → ¬ (l.length : Int) = 1 := fun e k => hone ⟨e, by omega⟩
      obtain ⟨n, hn⟩ : ∃ n, l.length = n := ⟨_, rfl⟩
      rw [hn] at hHdH hcond ⊢
      clear hDD hHd hone hn
      cases neg
      · have hn1 := hcond rfl
        clear hcond
        go_wp2_with fail
        refine bodyPost_ret (results_cell_row rfl _ _ q4 30 #[.int .i64 2, .bool false, .bool false, .string ⟨#[]⟩, .slice none 0 0, .slice none 0 0, .slice a n c] (0, 0) _ rfl (put7_blk hZ5.out _ _ _ _ _ _ _) Tryz.underlying30 rfl (by kernel_rfl)) rfl ?_
        rw [hres.out]
        exact hHdH.out.an hZ5.out hT4.out hq4w.out hqb2 hq16 hA5H.out hF5H.out
      · clear hcond
        go_wp2_with fail
        all_goals
          refine bodyPost_ret (results_cell_row rfl _ _ q4 30 #[.int .i64 2, .bool true, .bool false, .string ⟨#[]⟩, .slice none 0 0, .slice none 0 0, .slice a n c] (0, 0) _ rfl (put7_blk hZ5.out _ _ _ _ _ _ _) Tryz.underlying30 rfl (by kernel_rfl)) rfl ?_
          rw [hres.out]
          exact hHdH.out.an hZ5.out hT4.out hq4w.out hqb2 hq16 hA5H.out hF5H.out
end
end Go.Proofs.YtnhbcmhinhncfaaGreatDoor
/- Pipelines parted by && and ||. Conditions: the parser lies as stated; a command's contract is handed in. -/
namespace Go.Proofs.YtnhbcmhinhncfaaGreatDoor
open Go.RowKit Go.Shelf Go.PlainAid
set_option linter.unusedVariables false
set_option linter.unusedSimpArgs false
attribute [local go_sem] Oper.semAt_some
/-- A new block is a row of one, of two. -/
theorem kids1 {W : World} {T : Nat → Prop} {q : Nat} {c1 : List Value} {n : Nd} (hB : Blk W q 30 c1.toArray) (h1 : NdAt W T c1 n) (hq : T q) : Done ElN 30 W T (.slice (some ⟨q, 0, none⟩) 1 1) [n] :=
  ⟨⟨q, fun _ => c1, row_one hB h1.len (Nat.le_refl _), fun i y hi => by
    cases i with
    | zero => obtain rfl : n = y := by simpa using hi
              exact h1
    | succ i => simp at hi⟩, fun g hg => by obtain rfl : q = g := by simpa [Value.ownBlock] using hg
                                            exact hq⟩
theorem kids2 {W : World} {T : Nat → Prop} {q : Nat} {c1 c2 : List Value} {n m : Nd} (hB : Blk W q 30 (c1 ++ c2).toArray) (h1 : NdAt W T c1 n) (h2 : NdAt W T c2 m) (hq : T q) : Done ElN 30 W T (.slice (some ⟨q, 0, none⟩) 2 2) [n, m] :=
  ⟨⟨q, fun i => if i = 0 then c1 else c2, ⟨by show (([] ++ c1) ++ c2).length = 2 * 7; rw [List.nil_append, List.length_append, h1.len, h2.len], .inr ⟨q, 2, (c1 ++ c2).toArray, rfl, Nat.le_refl _, hB, Nat.le_refl _, by unfold maxLen; omega, by simp [h1.len, h2.len], by
      show (c1 ++ c2).toArray.toList.take (2 * 7) = ([] ++ c1) ++ c2
      rw [List.nil_append]
      have : (c1 ++ c2).length = 14 := by rw [List.length_append, h1.len, h2.len]
      exact List.take_of_length_le (by simp [h1.len, h2.len])⟩⟩, fun i y hi => by
    match i, hi with
    | 0, hi => obtain rfl : n = y := by simpa using hi
               exact h1
    | 1, hi => obtain rfl : m = y := by simpa using hi
               exact h2
    | i + 2, hi => simp at hi⟩, fun g hg => by obtain rfl : q = g := by simpa [Value.ownBlock] using hg
                                               exact hq⟩
section
variable {b : Nat} {s : ByteArray} {w : World} {st : PS} {B : Int → PS → Nd × PS} {d : Int}
/-- What holds at the head of the loop. -/
structure AoI (b q4 q5 : Nat) (s : ByteArray) (w : World) (A : Nd × PS) (B : Int → PS → Nd × PS) (d : Int) (st1 : PS) (n : Nd) (k : Int) (x y : Bool) (nm : ByteArray) (aw : Option Addr) (nw cw : Nat) (ar : Option Addr) (nr cr : Nat) (ak : Option Addr) (nk ck : Nat) (T : Nat → Prop) (f : Nat) (W : World) : Prop where
  pf : PF b s W st1
  fb : Fb b w W
  hd : Hd b w n k x y nm aw nw cw ar nr cr ak nk ck T W
  z4 : Blk W q4 30 N7
  b5 : Blk W q5 30 #[.int .i64 k, .bool x, .bool y, .string nm, .slice aw nw cw, .slice ar nr cr, .slice ak nk ck]
  n4 : ¬ T q4
  n5 : ¬ T q5
  an : A = andP s B d f n st1
  lf : rem s st1 < f
theorem AoI.step {q4 q5 : Nat} {A : Nd × PS} {st2 : PS} {n n2 : Nd} {k : Int} {x y : Bool} {nm : ByteArray} {aw : Option Addr} {nw cw : Nat} {ar : Option Addr} {nr cr : Nat} {ak : Option Addr} {nk ck : Nat} {k2 : Int} {x2 y2 : Bool} {nm2 : ByteArray} {aw2 : Option Addr} {nw2 cw2 : Nat} {ar2 : Option Addr} {nr2 cr2 : Nat} {ak2 : Option Addr} {nk2 ck2 : Nat} {T T2 : Nat → Prop} {f : Nat} {w7 : World} {kd : Int}
    (hd : Hd b w n k x y nm aw nw cw ar nr cr ak nk ck T w7) (hN : NdAt w7 T2 [.int .i64 k2, .bool x2, .bool y2, .string nm2, .slice aw2 nw2 cw2, .slice ar2 nr2 cr2, .slice ak2 nk2 ck2] n2) (hT2 : ∀ g, T2 g → w.heap.size ≤ g ∧ g < w7.heap.size ∧ g ≠ q4 ∧ g ≠ q5) (hz : Blk w7 q4 30 N7) (hb5 : Blk w7 q5 30 #[.int .i64 k, .bool x, .bool y, .string nm, .slice aw nw cw, .slice ar nr cr, .slice ak nk ck])
    (hp : PF b s w7 st2) (hf : Fb b w w7) (n4 : ¬ T q4) (n5 : ¬ T q5) (h45 : q4 ≠ q5) (hq5b : q5 ≠ b) (hq516 : 8 ≤ q5) (hw5 : w.heap.size ≤ q5) (han : A = andP s B d f (ndK kd [n, n2]) st2) (hlf : rem s st2 < f) :
    AoI b q4 q5 s w A B d st2 (ndK kd [n, n2]) kd false false ⟨#[]⟩ none 0 0 none 0 0 (some ⟨w7.heap.size, 0, none⟩) 2 2 (fun g => (T g ∨ T2 g) ∨ g = w7.heap.size) f
      ((put7 w7 q5 (.int .i64 kd) (.bool false) (.bool false) (.string ⟨#[]⟩) (.slice none 0 0) (.slice none 0 0) (.slice (some ⟨w7.heap.size, 0, none⟩) 2 2)).alloc (.cells #[.int .i64 k, .bool x, .bool y, .string nm, .slice aw nw cw, .slice ar nr cr, .slice ak nk ck, .int .i64 k2, .bool x2, .bool y2, .string nm2, .slice aw2 nw2 cw2, .slice ar2 nr2 cr2, .slice ak2 nk2 ck2] 30)) := by
  obtain ⟨W', hW'⟩ : ∃ W, put7 w7 q5 (.int .i64 kd) (.bool false) (.bool false) (.string ⟨#[]⟩) (.slice none 0 0) (.slice none 0 0) (.slice (some ⟨w7.heap.size, 0, none⟩) 2 2) = W := ⟨_, rfl⟩
  have hs : W'.heap.size = w7.heap.size := by rw [← hW']; exact put7_size _ _ _ _ _ _ _ _ _
  have hk : ∀ g, g ≠ q5 → W'.heap[g]? = w7.heap[g]? := fun g hg => by rw [← hW']; exact put7_far _ _ _ _ _ _ _ _ _ hg
  have hB' : Blk W' q5 30 #[.int .i64 kd, .bool false, .bool false, .string ⟨#[]⟩, .slice none 0 0, .slice none 0 0, .slice (some ⟨w7.heap.size, 0, none⟩) 2 2] := by rw [← hW']; exact put7_blk hb5 _ _ _ _ _ _ _
  have hp' : PF b s W' st2 := hp.other hb5 (by decide) hq5b hq516 (Nat.le_of_eq hs.symm) hk
  have hf' : Fb b w W' := by rw [← hW']; exact put7_fb hf hw5 _ _ _ _ _ _ _
  rw [hW']
  clear hW'
  have hb : Below W'.heap.size W' (W'.alloc (.cells #[.int .i64 k, .bool x, .bool y, .string nm, .slice aw nw cw, .slice ar nr cr, .slice ak nk ck, .int .i64 k2, .bool x2, .bool y2, .string nm2, .slice aw2 nw2 cw2, .slice ar2 nr2 cr2, .slice ak2 nk2 ck2] 30)) := (Below.refl _ _).alloc (Nat.le_refl _) _
  have hsz : (W'.alloc (.cells #[.int .i64 k, .bool x, .bool y, .string nm, .slice aw nw cw, .slice ar nr cr, .slice ak nk ck, .int .i64 k2, .bool x2, .bool y2, .string nm2, .slice aw2 nw2 cw2, .slice ar2 nr2 cr2, .slice ak2 nk2 ck2] 30)).heap.size = w7.heap.size + 1 := by rw [World.size_alloc, hs]
  have hBn : Blk (W'.alloc (.cells #[.int .i64 k, .bool x, .bool y, .string nm, .slice aw nw cw, .slice ar nr cr, .slice ak nk ck, .int .i64 k2, .bool x2, .bool y2, .string nm2, .slice aw2 nw2 cw2, .slice ar2 nr2 cr2, .slice ak2 nk2 ck2] 30)) w7.heap.size 30 #[.int .i64 k, .bool x, .bool y, .string nm, .slice aw nw cw, .slice ar nr cr, .slice ak nk ck, .int .i64 k2, .bool x2, .bool y2, .string nm2, .slice aw2 nw2 cw2, .slice ar2 nr2 cr2, .slice ak2 nk2 ck2] := by rw [← hs]; exact Blk.new _ _ _
  have hkk : ∀ g, g < w7.heap.size → g ≠ q5 → (W'.alloc (.cells #[.int .i64 k, .bool x, .bool y, .string nm, .slice aw nw cw, .slice ar nr cr, .slice ak nk ck, .int .i64 k2, .bool x2, .bool y2, .string nm2, .slice aw2 nw2 cw2, .slice ar2 nr2 cr2, .slice ak2 nk2 ck2] 30)).heap[g]? = w7.heap[g]? := fun g h1 h2 => (hb.block g (by omega)).trans (hk g h2)
  have hN1 : NdAt (W'.alloc (.cells #[.int .i64 k, .bool x, .bool y, .string nm, .slice aw nw cw, .slice ar nr cr, .slice ak nk ck, .int .i64 k2, .bool x2, .bool y2, .string nm2, .slice aw2 nw2 cw2, .slice ar2 nr2 cr2, .slice ak2 nk2 ck2] 30)) (fun g => (T g ∨ T2 g) ∨ g = w7.heap.size) [.int .i64 k, .bool x, .bool y, .string nm, .slice aw nw cw, .slice ar nr cr, .slice ak nk ck] n := hd.at_.keep (fun g hg => hkk g (hd.ge g hg).2 (fun e => n5 (e ▸ hg))) (fun g h => .inl (.inl h))
  have hN2 : NdAt (W'.alloc (.cells #[.int .i64 k, .bool x, .bool y, .string nm, .slice aw nw cw, .slice ar nr cr, .slice ak nk ck, .int .i64 k2, .bool x2, .bool y2, .string nm2, .slice aw2 nw2 cw2, .slice ar2 nr2 cr2, .slice ak2 nk2 ck2] 30)) (fun g => (T g ∨ T2 g) ∨ g = w7.heap.size) [.int .i64 k2, .bool x2, .bool y2, .string nm2, .slice aw2 nw2 cw2, .slice ar2 nr2 cr2, .slice ak2 nk2 ck2] n2 := hN.keep (fun g hg => hkk g (hT2 g hg).2.1 (hT2 g hg).2.2.2) (fun g h => .inl (.inr h))
  have h4l := hz.lt
  have h5l := hb5.lt
  refine ⟨hp'.below hb, hf'.trans (Fb.of_below hb), ⟨NdAt.of (ws := []) (rs := []) (kids := [n, n2]) (Done.nil _ _ _ _) (Done.nil _ _ _ _) (kids2 hBn hN1 hN2 (.inr rfl)), fun g hg => ?_⟩, (hkk q4 h4l h45).trans hz, hB'.alloc _, fun e => ?_, fun e => ?_, han, hlf⟩
  · rw [hsz]
    rcases hg with (hg | hg) | hg
    · have := hd.ge g hg; omega
    · have := hT2 g hg; omega
    · have := hf.size; omega
  · rcases e with (e | e) | e
    · exact n4 e
    · exact (hT2 q4 e).2.2.1 rfl
    · omega
  · rcases e with (e | e) | e
    · exact n5 e
    · exact (hT2 q5 e).2.2.2 rfl
    · omega
set_option maxRecDepth 100000 in
set_option maxHeartbeats 8000000 in
theorem andOr_f (hB : ∀ (d : Int) (st : PS), PW s st → Lo s st (B d st).2) (hC : CmdC s B d) (h : PF b s w st) : Calls Tryz.prog 44 #[ptr b, .int .i64 d] w (NdAn b s w (aoP s B d st).1 (aoP s B d st).2) := by
  obtain ⟨q4, hq4⟩ : ∃ q, w.heap.size = q := ⟨_, rfl⟩
  have hlt := h.lt
  have h16 := h.b16
  have hqb : q4 ≠ b := by omega
  have hq16 : 8 ≤ q4 := by omega
  have hb1 : Below w.heap.size w (w.alloc (.cells N7 30)) := (Below.refl _ _).alloc (Nat.le_refl _) _
  have hZ := Lib.hid (show Blk (w.alloc (.cells N7 30)) q4 30 N7 by rw [← hq4]; exact Blk.new _ _ _)
  have hF1 := Lib.hid (Fb.of_below (b := b) hb1)
  have hpp := Lib.hid (fun (W : World) (st : PS) (hp : PF b s W st) => pipeline_f (d := d) hB hC hp)
  have hc := Lib.hid (hpp.out _ st (h.below hb1))
  have hlo := lo_pipe hB d h.ok
  have hBH := Lib.hid hB
  obtain ⟨W, hW⟩ : ∃ W, w.alloc (.cells N7 30) = W := ⟨_, rfl⟩
  rw [hW] at hZ hF1 hc
  have hWH := Lib.hid hW
  have hqH := Lib.hid hq4
  have hr := Lib.hid (show aoP s B d st = andP s B d (rem s (pipeP s B d st).2 + 1) (pipeP s B d st).1 (pipeP s B d st).2 from rfl)
  obtain ⟨P, hP⟩ : ∃ P, pipeP s B d st = P := ⟨_, rfl⟩
  rw [hP] at hc hr hlo
  obtain ⟨A, hA⟩ : ∃ A, aoP s B d st = A := ⟨_, rfl⟩
  rw [hA] at hr ⊢
  obtain ⟨n0, st0⟩ := P
  clear hW hb1 h hq4 hP hA hC hB
  go_enter Tryz.func44, Tryz.ntmps44
  go_upto_region 1 with fail
  rw [hWH.out, hqH.out]
  go_upto_region 2 with (go_at_call 60; refine hc.out.mono ?_; rintro e w3 ⟨k1, x1, y1, nm1, aw1, nw1, cw1, ar1, nr1, cr1, ak1, nk1, ck1, T1, rfl, hN, hT, hA3, hF3⟩; have hN3 := Lib.hid hN; have hT3 := Lib.hid hT; have hA3H := Lib.hid hA3; have hF3H := Lib.hid (hF1.out.trans hF3); have hZ3 := Lib.hid (hF3.blk hZ.out hqb); clear hN hT hA3 hF3)
  obtain ⟨q5, hq5⟩ : ∃ q, w3.heap.size = q := ⟨_, rfl⟩
  have hb4 : Below w3.heap.size w3 (w3.alloc (.cells #[.int .i64 k1, .bool x1, .bool y1, .string nm1, .slice aw1 nw1 cw1, .slice ar1 nr1 cr1, .slice ak1 nk1 ck1] 30)) := (Below.refl _ _).alloc (Nat.le_refl _) _
  have hB5 : Blk (w3.alloc (.cells #[.int .i64 k1, .bool x1, .bool y1, .string nm1, .slice aw1 nw1 cw1, .slice ar1 nr1 cr1, .slice ak1 nk1 ck1] 30)) q5 30 #[.int .i64 k1, .bool x1, .bool y1, .string nm1, .slice aw1 nw1 cw1, .slice ar1 nr1 cr1, .slice ak1 nk1 ck1] := by rw [← hq5]; exact Blk.new _ _ _
  have hHd3 : Hd b w n0 k1 x1 y1 nm1 aw1 nw1 cw1 ar1 nr1 cr1 ak1 nk1 ck1 T1 w3 := ⟨hN3.out, fun g hg => ⟨Nat.le_trans hF1.out.size (hT3.out g hg).1, (hT3.out g hg).2⟩⟩
  have h35 : w3.heap.size ≤ q5 := Nat.le_of_eq hq5
  have hst : AoI b q4 q5 s w A B d st0 n0 k1 x1 y1 nm1 aw1 nw1 cw1 ar1 nr1 cr1 ak1 nk1 ck1 T1 (rem s st0 + 1) (w3.alloc (.cells #[.int .i64 k1, .bool x1, .bool y1, .string nm1, .slice aw1 nw1 cw1, .slice ar1 nr1 cr1, .slice ak1 nk1 ck1] 30)) :=
    ⟨hA3H.out.below hb4, hF3H.out.trans (Fb.of_below hb4), hHd3.keep (Fb.of_below hb4) hlt, (Fb.of_below (b := b) hb4).blk hZ3.out hqb, hB5, fun e => by have := (hT3.out q4 e).1; have := hZ.out.lt; omega, fun e => by have := (hT3.out q5 e).2; omega, hr.out, Nat.lt_succ_self _⟩
  have hq5b : q5 ≠ b := by have := hF3H.out.size; omega
  have hq54 : q4 ≠ q5 := by have := hZ3.out.lt; omega
  have hw5 : w.heap.size ≤ q5 := by have := hF3H.out.size; omega
  have hq516 : 8 ≤ q5 := by omega
  have hstH := Lib.hid hst
  rw [hq5]
  clear hst hB5 hHd3 hb4 hr hlo hq5 h35 hN3 hT3 hA3H hF3H hZ3 hc
  go_loopg [6] (rem s st0) (fun g _ wr => ∃ (st1 : PS) (n : Nd) (k : Int) (x y : Bool) (nm : ByteArray) (aw : Option Addr) (nw cw : Nat) (ar : Option Addr) (nr cr : Nat) (ak : Option Addr) (nk ck : Nat) (T : Nat → Prop) (f : Nat), g = rem s st1 ∧ Hid (AoI b q4 q5 s w A B d st1 n k x y nm aw nw cw ar nr cr ak nk ck T f wr))
  case atStart => exact ⟨st0, n0, k1, x1, y1, nm1, aw1, nw1, cw1, ar1, nr1, cr1, ak1, nk1, ck1, T1, _, rfl, hstH⟩
  case round =>
    clear hstH
    obtain ⟨st1, n, k, x, y, nm, aw, nw, cw, ar, nr, cr, ak, nk, ck, T, f, hg, hI⟩ := hrel
    have hpf := hI.out.pf
    have ho := Lib.hid (isOp_f hpf ⟨#[124, 124]⟩)
    rw [show (⟨#[124, 124]⟩ : ByteArray).toList = [124, 124] by kernel_rfl] at ho
    have ha := Lib.hid (fun W (hp : PF b s W st1) => isOp_f hp ⟨#[38, 38]⟩)
    rw [show (⟨#[38, 38]⟩ : ByteArray).toList = [38, 38] by kernel_rfl] at ha
    obtain ⟨f, rfl⟩ : ∃ f', f = f' + 1 := ⟨f - 1, by have := hI.out.lf; omega⟩
    have han := Lib.hid (show A = if hasO s [124, 124] st1 || hasO s [38, 38] st1 then andP s B d f (ndK (if hasO s [124, 124] st1 then 4 else 3) [n, (pipeP s B d (newl s (nextP s st1))).1]) (pipeP s B d (newl s (nextP s st1))).2 else (n, fill s st1) by rw [hI.out.an]; rfl)
    obtain ⟨o1, ho1⟩ : ∃ x, hasO s [124, 124] st1 = x := ⟨_, rfl⟩
    obtain ⟨o2, ho2⟩ : ∃ x, hasO s [38, 38] st1 = x := ⟨_, rfl⟩
    have hless : (o1 || o2) = true → rem s (nextP s st1) < rem s st1 := fun e => by
      rw [Bool.or_eq_true] at e
      rcases e with e | e
      · exact rem_taken hpf.ok (by rw [isT_kind (ho1.trans e)]; decide)
      · exact rem_taken hpf.ok (by rw [isT_kind (ho2.trans e)]; decide)
    rw [ho1] at ho han
    rw [ho2] at ha han
    have hlf := hI.out.lf
    have hB5 := Lib.hid hI.out.b5
    have hZ4 := Lib.hid hI.out.z4
    clear ho1 ho2 hpf
    by_cases hor : (o1 || o2) = false
    · obtain ⟨rfl, rfl⟩ : o1 = false ∧ o2 = false := by simpa using hor
      have hA2 := han.out
      rw [if_neg (by decide)] at hA2
      clear hless hor han
      subst hA2
      go_upto_region 6 with (first
        | (go_at_call 61; refine (ha.out _ hA3H.out).mono ?_; rintro e w4 ⟨rfl, hA4, hF4⟩; have hA4H := Lib.hid hA4; have hF4H := Lib.hid (hF3H.out.trans hF4); clear hA4 hF4)
        | (go_at_call 61; refine ho.out.mono ?_; rintro e w3 ⟨rfl, hA3, hF3⟩; have hA3H := Lib.hid hA3; have hF3H := Lib.hid hF3; clear hA3 hF3))
      have hB6 := Lib.hid (hF4H.out.blk hB5.out hq5b)
      have hZ6 := Lib.hid (hF4H.out.blk hZ4.out hqb)
      have hH6 := Lib.hid (hI.out.hd.keep hF4H.out hlt)
      have c0 : w4.cell? ⟨q5, 0, none⟩ = some (.int .i64 k) := hB6.out.cell 0
      have c1 : w4.cell? ⟨q5, 1, none⟩ = some (.bool x) := hB6.out.cell 1
      have c2 : w4.cell? ⟨q5, 2, none⟩ = some (.bool y) := hB6.out.cell 2
      have c3 : w4.cell? ⟨q5, 3, none⟩ = some (.string nm) := hB6.out.cell 3
      have c4 : w4.cell? ⟨q5, 4, none⟩ = some (.slice aw nw cw) := hB6.out.cell 4
      have c5 : w4.cell? ⟨q5, 5, none⟩ = some (.slice ar nr cr) := hB6.out.cell 5
      have c6 : w4.cell? ⟨q5, 6, none⟩ = some (.slice ak nk ck) := hB6.out.cell 6
      have z0 : w4.cell? ⟨q4, 0, none⟩ = some (.int .i64 0) := hZ6.out.cell 0
      have z1 : w4.cell? ⟨q4, 1, none⟩ = some (.bool false) := hZ6.out.cell 1
      have z2 : w4.cell? ⟨q4, 2, none⟩ = some (.bool false) := hZ6.out.cell 2
      have z3 : w4.cell? ⟨q4, 3, none⟩ = some (.string ⟨#[]⟩) := hZ6.out.cell 3
      have z4 : w4.cell? ⟨q4, 4, none⟩ = some (.slice none 0 0) := hZ6.out.cell 4
      have z5 : w4.cell? ⟨q4, 5, none⟩ = some (.slice none 0 0) := hZ6.out.cell 5
      have z6 : w4.cell? ⟨q4, 6, none⟩ = some (.slice none 0 0) := hZ6.out.cell 6
      have g0 := hZ6.out.frozen 0
      have g1 := hZ6.out.frozen 1
      have g2 := hZ6.out.frozen 2
      have g3 := hZ6.out.frozen 3
      have g4 := hZ6.out.frozen 4
      have g5 := hZ6.out.frozen 5
      have g6 := hZ6.out.frozen 6
      go_wp2_with fail
      refine bodyPost_ret (results_cell_row rfl _ _ q4 30 #[.int .i64 k, .bool x, .bool y, .string nm, .slice aw nw cw, .slice ar nr cr, .slice ak nk ck] (0, 0) _ rfl (put7_blk hZ6.out _ _ _ _ _ _ _) Tryz.underlying30 rfl (by kernel_rfl)) rfl ?_
      exact hH6.out.an hZ6.out hI.out.n4 (Nat.le_of_eq hqH.out) hqb hq16 hA4H.out.fill (hI.out.fb.trans hF4H.out)
    · have hor1 : (o1 || o2) = true := by cases hx : (o1 || o2) with
        | true => rfl
        | false => exact absurd hx hor
      have hA2 := han.out
      rw [if_pos hor1] at hA2
      have hls := hless hor1
      have hnx := Lib.hid (fun W (hp : PF b s W st1) => next_f hp)
      have hnl := Lib.hid (fun W (hp : PF b s W (nextP s st1)) => newlines_f hp)
      have hpw := hI.out.pf.ok
      have hlo2 := (lo_newl (s := s) (pw_next hpw)).trans (lo_pipe hBH.out d (lo_newl (pw_next hpw)).ok)
      have hcall := Lib.hid (fun W hp => hpp.out W (newl s (nextP s st1)) hp)
      obtain ⟨P, hP⟩ : ∃ P, pipeP s B d (newl s (nextP s st1)) = P := ⟨_, rfl⟩
      rw [hP] at hA2 hlo2 hcall
      obtain ⟨n2, st2⟩ := P
      have hle2 : rem s st2 ≤ rem s (nextP s st1) := hlo2.le
      have hdl : rem s st2 < rem s st1 := by omega
      have hdl2 : rem s st2 < f := by omega
      obtain ⟨kd, hkd⟩ : ∃ x, (if o1 = true then (4 : Int) else 3) = x := ⟨_, rfl⟩
      rw [hkd] at hA2
      have hA2H := Lib.hid hA2
      have hdlH := Lib.hid hdl
      have hdl2H := Lib.hid hdl2
      clear hP hlo2 hle2 hdl hdl2 hls hless hA2 han hpw hlf hor
      have hmid : Hid (∀ w4, PF b s w4 st1 → Fb b wr w4 → True) := Lib.hid (fun _ _ _ => trivial)
      cases o1
      · obtain rfl : o2 = true := by simpa using hor1
        obtain rfl : kd = 3 := by rw [← hkd]; rfl
        clear hkd hor1
        go_upto_region 9 with (first
          | (go_at_call 19; refine (hnl.out _ hA5H.out).mono ?_; rintro e w6 ⟨rfl, hA6, hF6⟩; have hA6H := Lib.hid hA6; have hF6H := Lib.hid (hF5H.out.trans hF6); clear hA6 hF6)
          | (go_at_call 27; refine (hnx.out _ hA4H.out).mono ?_; rintro e w5 ⟨rfl, hA5, hF5⟩; have hA5H := Lib.hid hA5; have hF5H := Lib.hid (hF4H.out.trans hF5); clear hA5 hF5; dsimp only [tkV])
          | (go_at_call 61; refine (ha.out _ hA3H.out).mono ?_; rintro e w4 ⟨rfl, hA4, hF4⟩; have hA4H := Lib.hid hA4; have hF4H := Lib.hid (hF3H.out.trans hF4); clear hA4 hF4)
          | (go_at_call 61; refine ho.out.mono ?_; rintro e w3 ⟨rfl, hA3, hF3⟩; have hA3H := Lib.hid hA3; have hF3H := Lib.hid hF3; clear hA3 hF3))
        have hB7 := Lib.hid (show Blk w6.drew q5 30 _ from hF6H.out.blk hB5.out hq5b)
        have hcl := Lib.hid (hcall.out w6.drew (hA6H.out.below (below_drew (Below.refl _ _) 1)))
        have c0 : w6.drew.cell? ⟨q5, 0, none⟩ = some (.int .i64 k) := hB7.out.cell 0
        have c1 : w6.drew.cell? ⟨q5, 1, none⟩ = some (.bool x) := hB7.out.cell 1
        have c2 : w6.drew.cell? ⟨q5, 2, none⟩ = some (.bool y) := hB7.out.cell 2
        have c3 : w6.drew.cell? ⟨q5, 3, none⟩ = some (.string nm) := hB7.out.cell 3
        have c4 : w6.drew.cell? ⟨q5, 4, none⟩ = some (.slice aw nw cw) := hB7.out.cell 4
        have c5 : w6.drew.cell? ⟨q5, 5, none⟩ = some (.slice ar nr cr) := hB7.out.cell 5
        have c6 : w6.drew.cell? ⟨q5, 6, none⟩ = some (.slice ak nk ck) := hB7.out.cell 6
        have g0 := hB7.out.frozen 0
        have g1 := hB7.out.frozen 1
        have g2 := hB7.out.frozen 2
        have g3 := hB7.out.frozen 3
        have g4 := hB7.out.frozen 4
        have g5 := hB7.out.frozen 5
        have g6 := hB7.out.frozen 6
        go_region_with (first
          | (go_at_call 60; refine hcl.out.mono ?_; rintro e w7 ⟨k2, x2, y2, nm2, aw2, nw2, cw2, ar2, nr2, cr2, ak2, nk2, ck2, T2, rfl, hN, hT, hA7, hF7⟩; have hN7 := Lib.hid hN; have hT7 := Lib.hid hT; have hA7H := Lib.hid hA7; have hF7H := Lib.hid hF7; have hB8 := Lib.hid (hF7.blk hB7.out hq5b); clear hN hT hA7 hF7; have l8 : q5 < w7.heap.size := hB8.out.lt; have e0 : w7.cell? ⟨q5, 0, none⟩ = some (.int .i64 k) := hB8.out.cell 0; have e1 : w7.cell? ⟨q5, 1, none⟩ = some (.bool x) := hB8.out.cell 1; have e2 : w7.cell? ⟨q5, 2, none⟩ = some (.bool y) := hB8.out.cell 2; have e3 : w7.cell? ⟨q5, 3, none⟩ = some (.string nm) := hB8.out.cell 3; have e4 : w7.cell? ⟨q5, 4, none⟩ = some (.slice aw nw cw) := hB8.out.cell 4; have e5 : w7.cell? ⟨q5, 5, none⟩ = some (.slice ar nr cr) := hB8.out.cell 5; have e6 : w7.cell? ⟨q5, 6, none⟩ = some (.slice ak nk ck) := hB8.out.cell 6; have u0 := hB8.out.frozen 0; have u1 := hB8.out.frozen 1; have u2 := hB8.out.frozen 2; have u3 := hB8.out.frozen 3; have u4 := hB8.out.frozen 4; have u5 := hB8.out.frozen 5; have u6 := hB8.out.frozen 6))
        all_goals
          go_wp2_with fail
          go_roundg (rem s st2)
          case measure => rw [hg]; exact hdlH.out
          case rel =>
            refine ⟨st2, _, _, _, _, _, _, _, _, _, _, _, _, _, _, _, _, rfl, Lib.hid (AoI.step (k2 := k2) (n2 := n2) ((hI.out.hd.keep hF6H.out hlt).keep ((Fb.refl b w6).drewN 1 |>.trans hF7H.out) hlt) hN7.out (fun g hg => ⟨Nat.le_trans (hI.out.fb.trans hF6H.out).size (hT7.out g hg).1, (hT7.out g hg).2, fun e => ?_, fun e => ?_⟩) (hF7H.out.blk (show Blk w6.drew q4 _ _ from hF6H.out.blk hZ4.out hqb) hqb) hB8.out hA7H.out ((hI.out.fb.trans hF6H.out).trans ((Fb.refl b w6).drewN 1 |>.trans hF7H.out)) hI.out.n4 hI.out.n5 hq54 hq5b hq516 hw5 hA2H.out hdl2H.out)⟩
            · have h1 := (hT7.out g hg).1
              have h2 : q4 < w6.heap.size := (hF6H.out.blk hZ4.out hqb).lt
              have h1 : w6.heap.size ≤ g := h1
              omega
            · have h1 := (hT7.out g hg).1
              have h2 : q5 < w6.heap.size := (hF6H.out.blk hB5.out hq5b).lt
              have h1 : w6.heap.size ≤ g := h1
              omega
      · obtain rfl : kd = 4 := by rw [← hkd]; rfl
        clear hkd hor1
        go_upto_region 9 with (first
          | (go_at_call 19; refine (hnl.out _ hA5H.out).mono ?_; rintro e w6 ⟨rfl, hA6, hF6⟩; have hA6H := Lib.hid hA6; have hF6H := Lib.hid (hF5H.out.trans hF6); clear hA6 hF6)
          | (go_at_call 27; refine (hnx.out _ hA4H.out).mono ?_; rintro e w5 ⟨rfl, hA5, hF5⟩; have hA5H := Lib.hid hA5; have hF5H := Lib.hid (hF4H.out.trans hF5); clear hA5 hF5; dsimp only [tkV])
          | (go_at_call 61; refine ho.out.mono ?_; rintro e w4 ⟨rfl, hA4, hF4⟩; have hA4H := Lib.hid hA4; have hF4H := Lib.hid hF4; clear hA4 hF4))
        have hB7 := Lib.hid (show Blk w6.drew q5 30 _ from hF6H.out.blk hB5.out hq5b)
        have hcl := Lib.hid (hcall.out w6.drew (hA6H.out.below (below_drew (Below.refl _ _) 1)))
        have c0 : w6.drew.cell? ⟨q5, 0, none⟩ = some (.int .i64 k) := hB7.out.cell 0
        have c1 : w6.drew.cell? ⟨q5, 1, none⟩ = some (.bool x) := hB7.out.cell 1
        have c2 : w6.drew.cell? ⟨q5, 2, none⟩ = some (.bool y) := hB7.out.cell 2
        have c3 : w6.drew.cell? ⟨q5, 3, none⟩ = some (.string nm) := hB7.out.cell 3
        have c4 : w6.drew.cell? ⟨q5, 4, none⟩ = some (.slice aw nw cw) := hB7.out.cell 4
        have c5 : w6.drew.cell? ⟨q5, 5, none⟩ = some (.slice ar nr cr) := hB7.out.cell 5
        have c6 : w6.drew.cell? ⟨q5, 6, none⟩ = some (.slice ak nk ck) := hB7.out.cell 6
        have g0 := hB7.out.frozen 0
        have g1 := hB7.out.frozen 1
        have g2 := hB7.out.frozen 2
        have g3 := hB7.out.frozen 3
        have g4 := hB7.out.frozen 4
        have g5 := hB7.out.frozen 5
        have g6 := hB7.out.frozen 6
        go_region_with (first
          | (go_at_call 60; refine hcl.out.mono ?_; rintro e w7 ⟨k2, x2, y2, nm2, aw2, nw2, cw2, ar2, nr2, cr2, ak2, nk2, ck2, T2, rfl, hN, hT, hA7, hF7⟩; have hN7 := Lib.hid hN; have hT7 := Lib.hid hT; have hA7H := Lib.hid hA7; have hF7H := Lib.hid hF7; have hB8 := Lib.hid (hF7.blk hB7.out hq5b); clear hN hT hA7 hF7; have l8 : q5 < w7.heap.size := hB8.out.lt; have e0 : w7.cell? ⟨q5, 0, none⟩ = some (.int .i64 k) := hB8.out.cell 0; have e1 : w7.cell? ⟨q5, 1, none⟩ = some (.bool x) := hB8.out.cell 1; have e2 : w7.cell? ⟨q5, 2, none⟩ = some (.bool y) := hB8.out.cell 2; have e3 : w7.cell? ⟨q5, 3, none⟩ = some (.string nm) := hB8.out.cell 3; have e4 : w7.cell? ⟨q5, 4, none⟩ = some (.slice aw nw cw) := hB8.out.cell 4; have e5 : w7.cell? ⟨q5, 5, none⟩ = some (.slice ar nr cr) := hB8.out.cell 5; have e6 : w7.cell? ⟨q5, 6, none⟩ = some (.slice ak nk ck) := hB8.out.cell 6; have u0 := hB8.out.frozen 0; have u1 := hB8.out.frozen 1; have u2 := hB8.out.frozen 2; have u3 := hB8.out.frozen 3; have u4 := hB8.out.frozen 4; have u5 := hB8.out.frozen 5; have u6 := hB8.out.frozen 6))
        all_goals
          go_wp2_with fail
          go_roundg (rem s st2)
          case measure => rw [hg]; exact hdlH.out
          case rel =>
            refine ⟨st2, _, _, _, _, _, _, _, _, _, _, _, _, _, _, _, _, rfl, Lib.hid (AoI.step (k2 := k2) (n2 := n2) ((hI.out.hd.keep hF6H.out hlt).keep ((Fb.refl b w6).drewN 1 |>.trans hF7H.out) hlt) hN7.out (fun g hg => ⟨Nat.le_trans (hI.out.fb.trans hF6H.out).size (hT7.out g hg).1, (hT7.out g hg).2, fun e => ?_, fun e => ?_⟩) (hF7H.out.blk (show Blk w6.drew q4 _ _ from hF6H.out.blk hZ4.out hqb) hqb) hB8.out hA7H.out ((hI.out.fb.trans hF6H.out).trans ((Fb.refl b w6).drewN 1 |>.trans hF7H.out)) hI.out.n4 hI.out.n5 hq54 hq5b hq516 hw5 hA2H.out hdl2H.out)⟩
            · have h1 := (hT7.out g hg).1
              have h2 : q4 < w6.heap.size := (hF6H.out.blk hZ4.out hqb).lt
              have h1 : w6.heap.size ≤ g := h1
              omega
            · have h1 := (hT7.out g hg).1
              have h2 : q5 < w6.heap.size := (hF6H.out.blk hB5.out hq5b).lt
              have h1 : w6.heap.size ≤ g := h1
              omega
end
end Go.Proofs.YtnhbcmhinhncfaaGreatDoor
/- An entry of a list. Conditions: the parser lies as stated; a command's contract is handed in. -/
namespace Go.Proofs.YtnhbcmhinhncfaaGreatDoor
open Go.RowKit Go.Shelf Go.PlainAid
set_option linter.unusedVariables false
set_option linter.unusedSimpArgs false
attribute [local go_sem] Oper.semAt_some
abbrev N8 : Array Value := #[.int .i64 0, .bool false, .bool false, .string ⟨#[]⟩, .slice none 0 0, .slice none 0 0, .slice none 0 0, .bool false]
def put8 (w : World) (q : Nat) (a1 a2 a3 a4 a5 a6 a7 a8 : Value) : World := (put7 w q a1 a2 a3 a4 a5 a6 a7).setCell ⟨q, 7, none⟩ a8
theorem put8_blk {W : World} {q : Nat} {T : TypeId} {v1 v2 v3 v4 v5 v6 v7 v8 : Value} (hB : Blk W q T #[v1, v2, v3, v4, v5, v6, v7, v8]) (a1 a2 a3 a4 a5 a6 a7 a8 : Value) : Blk (put8 W q a1 a2 a3 a4 a5 a6 a7 a8) q T #[a1, a2, a3, a4, a5, a6, a7, a8] := by
  have h1 : Blk _ q T #[a1, v2, v3, v4, v5, v6, v7, v8] := hB.set_ 0 a1
  have h2 : Blk _ q T #[a1, a2, v3, v4, v5, v6, v7, v8] := h1.set_ 1 a2
  have h3 : Blk _ q T #[a1, a2, a3, v4, v5, v6, v7, v8] := h2.set_ 2 a3
  have h4 : Blk _ q T #[a1, a2, a3, a4, v5, v6, v7, v8] := h3.set_ 3 a4
  have h5 : Blk _ q T #[a1, a2, a3, a4, a5, v6, v7, v8] := h4.set_ 4 a5
  have h6 : Blk _ q T #[a1, a2, a3, a4, a5, a6, v7, v8] := h5.set_ 5 a6
  have h7 : Blk _ q T #[a1, a2, a3, a4, a5, a6, a7, v8] := h6.set_ 6 a7
  exact h7.set_ 7 a8
theorem put8_far (W : World) (q : Nat) (a1 a2 a3 a4 a5 a6 a7 a8 : Value) {g : Nat} (h : g ≠ q) : (put8 W q a1 a2 a3 a4 a5 a6 a7 a8).heap[g]? = W.heap[g]? := by
  unfold put8
  rw [Below.heap_setCell _ _ _ _ h]
  exact put7_far _ _ _ _ _ _ _ _ _ h
theorem put8_size (W : World) (q : Nat) (a1 a2 a3 a4 a5 a6 a7 a8 : Value) : (put8 W q a1 a2 a3 a4 a5 a6 a7 a8).heap.size = W.heap.size := by
  unfold put8
  rw [World.size_setCell]
  exact put7_size _ _ _ _ _ _ _ _ _
theorem put8_fb {b : Nat} {w W : World} {q : Nat} (h : Fb b w W) (hq : w.heap.size ≤ q) (a1 a2 a3 a4 a5 a6 a7 a8 : Value) : Fb b w (put8 W q a1 a2 a3 a4 a5 a6 a7 a8) := (put7_fb h hq _ _ _ _ _ _ _).new_ hq _ _
section
variable {b : Nat} {s : ByteArray} {w : World} {st : PS} {B : Int → PS → Nd × PS} {d : Int}
/-- What answers an entry. -/
def EnAn (b : Nat) (s : ByteArray) (w : World) (n : Nd × Bool) (st : PS) (e : Ending) (w' : World) : Prop :=
  ∃ (k : Int) (x y : Bool) (nm : ByteArray) (aw : Option Addr) (nw cw : Nat) (ar : Option Addr) (nr cr : Nat) (ak : Option Addr) (nk ck : Nat) (T : Nat → Prop), e = .returned (.agg #[.int .i64 k, .bool x, .bool y, .string nm, .slice aw nw cw, .slice ar nr cr, .slice ak nk ck, .bool n.2]) ∧
    NdAt w' T [.int .i64 k, .bool x, .bool y, .string nm, .slice aw nw cw, .slice ar nr cr, .slice ak nk ck] n.1 ∧ (∀ g, T g → w.heap.size ≤ g ∧ g < w'.heap.size) ∧ PF b s w' st ∧ Fb b w w'
theorem Hd.en {q : Nat} {n : Nd} {p : Bool} {k : Int} {x y : Bool} {nm : ByteArray} {aw : Option Addr} {nw cw : Nat} {ar : Option Addr} {nr cr : Nat} {ak : Option Addr} {nk ck : Nat} {T : Nat → Prop} {W : World} (h : Hd b w n k x y nm aw nw cw ar nr cr ak nk ck T W) (hB : Blk W q 73 N8) (hq : ¬ T q) (hqw : w.heap.size ≤ q) (hqb : q ≠ b) (h16 : 8 ≤ q) (hp : PF b s W st) (hf : Fb b w W) :
    EnAn b s w (n, p) st (.returned (.agg #[.int .i64 k, .bool x, .bool y, .string nm, .slice aw nw cw, .slice ar nr cr, .slice ak nk ck, .bool p])) (put8 W q (.int .i64 k) (.bool x) (.bool y) (.string nm) (.slice aw nw cw) (.slice ar nr cr) (.slice ak nk ck) (.bool p)) :=
  ⟨k, x, y, nm, aw, nw, cw, ar, nr, cr, ak, nk, ck, T, rfl, h.at_.keep (fun g hg => put8_far _ _ _ _ _ _ _ _ _ _ (fun e => hq (e ▸ hg))) (fun _ h => h), fun g hg => ⟨(h.ge g hg).1, by rw [put8_size]; exact (h.ge g hg).2⟩,
    hp.other hB (by decide) hqb h16 (Nat.le_of_eq (put8_size _ _ _ _ _ _ _ _ _ _).symm) (fun g hg => put8_far _ _ _ _ _ _ _ _ _ _ hg), put8_fb hf hqw _ _ _ _ _ _ _ _⟩
theorem en_async {q4 : Nat} {n : Nd} {k : Int} {x y : Bool} {nm : ByteArray} {aw : Option Addr} {nw cw : Nat} {ar : Option Addr} {nr cr : Nat} {ak : Option Addr} {nk ck : Nat} {T : Nat → Prop} {w5 : World} {st2 : PS} (hd : Hd b w n k x y nm aw nw cw ar nr cr ak nk ck T w5) (hz : Blk w5 q4 73 N8) (n4 : ¬ T q4) (hp : PF b s w5 st2) (hf : Fb b w w5) (hqw : w.heap.size ≤ q4) (hqb : q4 ≠ b) (h16 : 8 ≤ q4) :
    EnAn b s w (ndK 6 [n], true) st2 (.returned (.agg #[.int .i64 6, .bool false, .bool false, .string ⟨#[]⟩, .slice none 0 0, .slice none 0 0, .slice (some ⟨w5.heap.size, 0, none⟩) 1 1, .bool true])) ((put8 w5 q4 (.int .i64 6) (.bool false) (.bool false) (.string ⟨#[]⟩) (.slice none 0 0) (.slice none 0 0) (.slice (some ⟨w5.heap.size, 0, none⟩) 1 1) (.bool true)).alloc (.cells #[.int .i64 k, .bool x, .bool y, .string nm, .slice aw nw cw, .slice ar nr cr, .slice ak nk ck] 30)) := by
  obtain ⟨W', hW'⟩ : ∃ W, put8 w5 q4 (.int .i64 6) (.bool false) (.bool false) (.string ⟨#[]⟩) (.slice none 0 0) (.slice none 0 0) (.slice (some ⟨w5.heap.size, 0, none⟩) 1 1) (.bool true) = W := ⟨_, rfl⟩
  have hs : W'.heap.size = w5.heap.size := by rw [← hW']; exact put8_size _ _ _ _ _ _ _ _ _ _
  have hk : ∀ g, g ≠ q4 → W'.heap[g]? = w5.heap[g]? := fun g hg => by rw [← hW']; exact put8_far _ _ _ _ _ _ _ _ _ _ hg
  have hp' : PF b s W' st2 := hp.other hz (by decide) hqb h16 (Nat.le_of_eq hs.symm) hk
  have hf' : Fb b w W' := by rw [← hW']; exact put8_fb hf hqw _ _ _ _ _ _ _ _
  rw [hW']
  clear hW'
  have hb : Below W'.heap.size W' (W'.alloc (.cells #[.int .i64 k, .bool x, .bool y, .string nm, .slice aw nw cw, .slice ar nr cr, .slice ak nk ck] 30)) := (Below.refl _ _).alloc (Nat.le_refl _) _
  have hsz : (W'.alloc (.cells #[.int .i64 k, .bool x, .bool y, .string nm, .slice aw nw cw, .slice ar nr cr, .slice ak nk ck] 30)).heap.size = w5.heap.size + 1 := by rw [World.size_alloc, hs]
  have hBn : Blk (W'.alloc (.cells #[.int .i64 k, .bool x, .bool y, .string nm, .slice aw nw cw, .slice ar nr cr, .slice ak nk ck] 30)) w5.heap.size 30 #[.int .i64 k, .bool x, .bool y, .string nm, .slice aw nw cw, .slice ar nr cr, .slice ak nk ck] := by rw [← hs]; exact Blk.new _ _ _
  have hN1 : NdAt (W'.alloc (.cells #[.int .i64 k, .bool x, .bool y, .string nm, .slice aw nw cw, .slice ar nr cr, .slice ak nk ck] 30)) (fun g => T g ∨ g = w5.heap.size) [.int .i64 k, .bool x, .bool y, .string nm, .slice aw nw cw, .slice ar nr cr, .slice ak nk ck] n := hd.at_.keep (fun g hg => (hb.block g (by have := (hd.ge g hg).2; omega)).trans (hk g (fun e => n4 (e ▸ hg)))) (fun g h => .inl h)
  refine ⟨6, false, false, ⟨#[]⟩, none, 0, 0, none, 0, 0, some ⟨w5.heap.size, 0, none⟩, 1, 1, _, rfl, NdAt.of (ws := []) (rs := []) (kids := [n]) (Done.nil _ _ _ _) (Done.nil _ _ _ _) (kids1 hBn hN1 (.inr rfl)), fun g hg => ?_, hp'.below hb, hf'.trans (Fb.of_below hb)⟩
  rw [hsz]
  rcases hg with hg | hg
  · have := hd.ge g hg; omega
  · have := hf.size; omega
set_option maxRecDepth 100000 in
set_option maxHeartbeats 8000000 in
theorem entry_f (hB : ∀ (d : Int) (st : PS), PW s st → Lo s st (B d st).2) (hC : CmdC s B d) (h : PF b s w st) : Calls Tryz.prog 33 #[ptr b, .int .i64 d] w (EnAn b s w (entP s B d st).1 (entP s B d st).2) := by
  obtain ⟨q4, hq4⟩ : ∃ q, w.heap.size = q := ⟨_, rfl⟩
  have hlt := h.lt
  have h16 := h.b16
  have hqb : q4 ≠ b := by omega
  have hq16 : 8 ≤ q4 := by omega
  have hb1 : Below w.heap.size w (w.alloc (.cells N8 73)) := (Below.refl _ _).alloc (Nat.le_refl _) _
  have hZ := Lib.hid (show Blk (w.alloc (.cells N8 73)) q4 73 N8 by rw [← hq4]; exact Blk.new _ _ _)
  have hF1 := Lib.hid (Fb.of_below (b := b) hb1)
  have hc := Lib.hid (andOr_f (d := d) hB hC (h.below hb1))
  have hlo := lo_ao hB d h.ok
  obtain ⟨W, hW⟩ : ∃ W, w.alloc (.cells N8 73) = W := ⟨_, rfl⟩
  rw [hW] at hZ hF1 hc
  have hWH := Lib.hid hW
  have hqH := Lib.hid hq4
  have hr := Lib.hid (show entP s B d st = if hasO s [38] (aoP s B d st).2 then ((ndK 6 [(aoP s B d st).1], true), nextP s (aoP s B d st).2) else (((aoP s B d st).1, hasO s [59] (aoP s B d st).2), tookP s 2 [59] (aoP s B d st).2) from rfl)
  obtain ⟨A, hA⟩ : ∃ A, aoP s B d st = A := ⟨_, rfl⟩
  rw [hA] at hr hc
  obtain ⟨n, st1⟩ := A
  have ha := Lib.hid (fun W (hp : PF b s W st1) => took_f hp ⟨#[38]⟩)
  rw [show (⟨#[38]⟩ : ByteArray).toList = [38] by kernel_rfl] at ha
  have hs := Lib.hid (fun W (hp : PF b s W st1) => took_f hp ⟨#[59]⟩)
  rw [show (⟨#[59]⟩ : ByteArray).toList = [59] by kernel_rfl] at hs
  rw [hr.out]
  have htk := Lib.hid (show tookP s 2 [59] st1 = if hasO s [59] st1 then nextP s st1 else fill s st1 from rfl)
  dsimp only
  rw [htk.out]
  obtain ⟨o, ho⟩ : ∃ x, hasO s [38] st1 = x := ⟨_, rfl⟩
  obtain ⟨o2, ho2⟩ : ∃ x, hasO s [59] st1 = x := ⟨_, rfl⟩
  rw [ho] at ha ⊢
  rw [ho2] at hs ⊢
  clear hW hb1 h hq4 hA hC hB ho ho2 hr hlo htk
  go_enter Tryz.func33, Tryz.ntmps33
  go_upto_region 1 with fail
  rw [hWH.out, hqH.out]
  go_upto_region 2 with (go_at_call 44; refine hc.out.mono ?_; rintro e w3 ⟨k, x, y, nm, aw, nw, cw, ar, nr, cr, ak, nk, ck, T, rfl, hN, hT, hA3, hF3⟩; have hN3 := Lib.hid hN; have hT3 := Lib.hid hT; have hA3H := Lib.hid hA3; have hF3H := Lib.hid (hF1.out.trans hF3); have hZ3 := Lib.hid (hF3.blk hZ.out hqb); clear hN hT hA3 hF3)
  obtain ⟨q5, hq5⟩ : ∃ q, w3.heap.size = q := ⟨_, rfl⟩
  obtain ⟨W4, hW4⟩ : ∃ W, w3.alloc (.cells #[.int .i64 k, .bool x, .bool y, .string nm, .slice aw nw cw, .slice ar nr cr, .slice ak nk ck] 30) = W := ⟨_, rfl⟩
  have hb4 : Below w3.heap.size w3 W4 := by rw [← hW4]; exact (Below.refl _ _).alloc (Nat.le_refl _) _
  have hBn := Lib.hid (show Blk W4 q5 30 #[.int .i64 k, .bool x, .bool y, .string nm, .slice aw nw cw, .slice ar nr cr, .slice ak nk ck] by rw [← hW4, ← hq5]; exact Blk.new _ _ _)
  rw [hW4, hq5]
  have hHd4 := Lib.hid ((show Hd b w n k x y nm aw nw cw ar nr cr ak nk ck T w3 from ⟨hN3.out, fun g hg => ⟨Nat.le_trans hF1.out.size (hT3.out g hg).1, (hT3.out g hg).2⟩⟩).keep (Fb.of_below hb4) hlt)
  have hT4 := Lib.hid (show ¬ T q4 from fun e => by have := (hT3.out q4 e).1; have := hZ.out.lt; omega)
  have hA4 := Lib.hid (hA3H.out.below hb4)
  have hF4 := Lib.hid (hF3H.out.trans (Fb.of_below hb4))
  have hZ4 := Lib.hid ((Fb.of_below (b := b) hb4).blk hZ3.out hqb)
  have hq5b : q5 ≠ b := by have := hF3H.out.size; omega
  have hq54 : ¬ q5 = q4 := by have := hZ3.out.lt; omega
  have hq45 : ¬ q4 = q5 := fun e => hq54 e.symm
  have hac := Lib.hid (ha.out W4 hA4.out)
  have hqw := Lib.hid (show w.heap.size ≤ q4 from Nat.le_of_eq hqH.out)
  clear hb4 hW4 hq5 ha hN3 hT3 hA3H hF3H hZ3 hc
  cases o
  · go_upto_region 4 with (go_at_call 45; refine hac.out.mono ?_; rintro e w5 ⟨rfl, hA5, hF5⟩; have hA5H := Lib.hid (show PF b s w5 st1 from hA5); have hF5H := Lib.hid (hF4.out.trans hF5); have hHd5 := Lib.hid (hHd4.out.keep hF5 hlt); have hZ5 := Lib.hid (hF5.blk hZ4.out hqb); have hBn5 := Lib.hid (hF5.blk hBn.out hq5b); clear hA5 hF5)
    have hA5d := Lib.hid (show PF b s w5.drew st1 from hA5H.out.below (below_drew (Below.refl _ _) 1))
    have hsc := Lib.hid (hs.out w5.drew hA5d.out)
    have c0 : w5.drew.cell? ⟨q5, 0, none⟩ = some (.int .i64 k) := hBn5.out.cell 0
    have c1 : w5.drew.cell? ⟨q5, 1, none⟩ = some (.bool x) := hBn5.out.cell 1
    have c2 : w5.drew.cell? ⟨q5, 2, none⟩ = some (.bool y) := hBn5.out.cell 2
    have c3 : w5.drew.cell? ⟨q5, 3, none⟩ = some (.string nm) := hBn5.out.cell 3
    have c4 : w5.drew.cell? ⟨q5, 4, none⟩ = some (.slice aw nw cw) := hBn5.out.cell 4
    have c5 : w5.drew.cell? ⟨q5, 5, none⟩ = some (.slice ar nr cr) := hBn5.out.cell 5
    have c6 : w5.drew.cell? ⟨q5, 6, none⟩ = some (.slice ak nk ck) := hBn5.out.cell 6
    have hBd := Lib.hid (show Blk w5.drew q5 30 _ from hBn5.out)
    have hZd := Lib.hid (show Blk w5.drew q4 73 N8 from hZ5.out)
    go_region_held3 (fun Z => Z.cell? ⟨q5, 0, none⟩ = some (.int .i64 k) ∧ Z.cell? ⟨q5, 1, none⟩ = some (.bool x) ∧ Z.cell? ⟨q5, 2, none⟩ = some (.bool y) ∧ Z.cell? ⟨q5, 3, none⟩ = some (.string nm) ∧ Z.cell? ⟨q5, 4, none⟩ = some (.slice aw nw cw) ∧ Z.cell? ⟨q5, 5, none⟩ = some (.slice ar nr cr) ∧ Z.cell? ⟨q5, 6, none⟩ = some (.slice ak nk ck)) (first | with_reducible exact ⟨c0, c1, c2, c3, c4, c5, c6⟩ | with_reducible exact ⟨e0, e1, e2, e3, e4, e5, e6⟩ | go_keep | fail)
      ((first
        | (go_at_call 45; refine hsc.out.mono ?_; rintro e w6 ⟨rfl, hA6, hF6⟩; have hA6H := Lib.hid hA6; have hF6H := Lib.hid hF6; have hB6 := Lib.hid (hF6.blk hBd.out hq5b); have hZ6 := Lib.hid (hF6.blk hZd.out hqb); have e0 : w6.cell? ⟨q5, 0, none⟩ = some (.int .i64 k) := hB6.out.cell 0; have e1 : w6.cell? ⟨q5, 1, none⟩ = some (.bool x) := hB6.out.cell 1; have e2 : w6.cell? ⟨q5, 2, none⟩ = some (.bool y) := hB6.out.cell 2; have e3 : w6.cell? ⟨q5, 3, none⟩ = some (.string nm) := hB6.out.cell 3; have e4 : w6.cell? ⟨q5, 4, none⟩ = some (.slice aw nw cw) := hB6.out.cell 4; have e5 : w6.cell? ⟨q5, 5, none⟩ = some (.slice ar nr cr) := hB6.out.cell 5; have e6 : w6.cell? ⟨q5, 6, none⟩ = some (.slice ak nk ck) := hB6.out.cell 6; have z0 : w6.cell? ⟨q4, 0, none⟩ = some (.int .i64 0) := hZ6.out.cell 0; have z1 : w6.cell? ⟨q4, 1, none⟩ = some (.bool false) := hZ6.out.cell 1; have z2 : w6.cell? ⟨q4, 2, none⟩ = some (.bool false) := hZ6.out.cell 2; have z3 : w6.cell? ⟨q4, 3, none⟩ = some (.string ⟨#[]⟩) := hZ6.out.cell 3; have z4 : w6.cell? ⟨q4, 4, none⟩ = some (.slice none 0 0) := hZ6.out.cell 4; have z5 : w6.cell? ⟨q4, 5, none⟩ = some (.slice none 0 0) := hZ6.out.cell 5; have z6 : w6.cell? ⟨q4, 6, none⟩ = some (.slice none 0 0) := hZ6.out.cell 6; have z7 : w6.cell? ⟨q4, 7, none⟩ = some (.bool false) := hZ6.out.cell 7; have g0 := hZ6.out.frozen 0; have g1 := hZ6.out.frozen 1; have g2 := hZ6.out.frozen 2; have g3 := hZ6.out.frozen 3; have g4 := hZ6.out.frozen 4; have g5 := hZ6.out.frozen 5; have g6 := hZ6.out.frozen 6; have g7 := hZ6.out.frozen 7; clear hA6 hF6)
        | fail))
    all_goals
      have hF56 := ((Fb.refl b w5).drewN 1).trans hF6H.out
      have h9 := hA6H.out
      clear hsc hs
      cases o2
      · go_wp2_with fail
        refine bodyPost_ret (results_cell_row rfl _ _ q4 73 #[.int .i64 k, .bool x, .bool y, .string nm, .slice aw nw cw, .slice ar nr cr, .slice ak nk ck, .bool false] (0, 0) _ rfl (put8_blk hZ6.out _ _ _ _ _ _ _ _) Tryz.underlying73 rfl (by kernel_rfl)) rfl ?_
        exact (hHd5.out.keep hF56 hlt).en hZ6.out hT4.out hqw.out hqb hq16 (PF.fill h9) (hF5H.out.trans hF56)
      · go_wp2_with fail
        refine bodyPost_ret (results_cell_row rfl _ _ q4 73 #[.int .i64 k, .bool x, .bool y, .string nm, .slice aw nw cw, .slice ar nr cr, .slice ak nk ck, .bool true] (0, 0) _ rfl (put8_blk hZ6.out _ _ _ _ _ _ _ _) Tryz.underlying73 rfl (by kernel_rfl)) rfl ?_
        exact (hHd5.out.keep hF56 hlt).en hZ6.out hT4.out hqw.out hqb hq16 h9 (hF5H.out.trans hF56)
  · go_upto_region 3 with (go_at_call 45; refine hac.out.mono ?_; rintro e w5 ⟨rfl, hA5, hF5⟩; have hA5H := Lib.hid (show PF b s w5 (nextP s st1) from hA5); have hF5H := Lib.hid (hF4.out.trans hF5); have hHd5 := Lib.hid (hHd4.out.keep hF5 hlt); have hZ5 := Lib.hid (hF5.blk hZ4.out hqb); have hBn5 := Lib.hid (hF5.blk hBn.out hq5b); clear hA5 hF5)
    have c0 : w5.cell? ⟨q5, 0, none⟩ = some (.int .i64 k) := hBn5.out.cell 0
    have c1 : w5.cell? ⟨q5, 1, none⟩ = some (.bool x) := hBn5.out.cell 1
    have c2 : w5.cell? ⟨q5, 2, none⟩ = some (.bool y) := hBn5.out.cell 2
    have c3 : w5.cell? ⟨q5, 3, none⟩ = some (.string nm) := hBn5.out.cell 3
    have c4 : w5.cell? ⟨q5, 4, none⟩ = some (.slice aw nw cw) := hBn5.out.cell 4
    have c5 : w5.cell? ⟨q5, 5, none⟩ = some (.slice ar nr cr) := hBn5.out.cell 5
    have c6 : w5.cell? ⟨q5, 6, none⟩ = some (.slice ak nk ck) := hBn5.out.cell 6
    have z0 : w5.cell? ⟨q4, 0, none⟩ = some (.int .i64 0) := hZ5.out.cell 0
    have z1 : w5.cell? ⟨q4, 1, none⟩ = some (.bool false) := hZ5.out.cell 1
    have z2 : w5.cell? ⟨q4, 2, none⟩ = some (.bool false) := hZ5.out.cell 2
    have z3 : w5.cell? ⟨q4, 3, none⟩ = some (.string ⟨#[]⟩) := hZ5.out.cell 3
    have z4 : w5.cell? ⟨q4, 4, none⟩ = some (.slice none 0 0) := hZ5.out.cell 4
    have z5 : w5.cell? ⟨q4, 5, none⟩ = some (.slice none 0 0) := hZ5.out.cell 5
    have z6 : w5.cell? ⟨q4, 6, none⟩ = some (.slice none 0 0) := hZ5.out.cell 6
    have z7 : w5.cell? ⟨q4, 7, none⟩ = some (.bool false) := hZ5.out.cell 7
    have g0 := hZ5.out.frozen 0
    have g1 := hZ5.out.frozen 1
    have g2 := hZ5.out.frozen 2
    have g3 := hZ5.out.frozen 3
    have g4 := hZ5.out.frozen 4
    have g5 := hZ5.out.frozen 5
    have g6 := hZ5.out.frozen 6
    have g7 := hZ5.out.frozen 7
    have l5 : q4 < w5.heap.size := hZ5.out.lt
    have l6 : q5 < w5.heap.size := hBn5.out.lt
    go_wp2_with fail
    refine bodyPost_ret (results_cell_row rfl _ _ q4 73 #[.int .i64 6, .bool false, .bool false, .string ⟨#[]⟩, .slice none 0 0, .slice none 0 0, .slice (some ⟨w5.heap.size, 0, none⟩) 1 1, .bool true] (0, 0) _ rfl ((put8_blk hZ5.out _ _ _ _ _ _ _ _).alloc _) Tryz.underlying73 rfl (by kernel_rfl)) rfl ?_
    exact en_async hHd5.out hZ5.out hT4.out hA5H.out hF5H.out hqw.out hqb hq16
end
end Go.Proofs.YtnhbcmhinhncfaaGreatDoor
/- A series of entries. Conditions: the parser lies as stated; what reads and what asks on are handed in. -/
namespace Go.Proofs.YtnhbcmhinhncfaaGreatDoor
open Go.RowKit Go.Shelf Go.PlainAid
set_option linter.unusedVariables false
set_option linter.unusedSimpArgs false
attribute [local go_sem] Oper.semAt_some
theorem infoEn : (Tryz.prog.info? 73).map (fun i => (i.zero, i.size, i.bytes)) = some (some (.agg N8), 8, 112) := by kernel_rfl
section
variable {b : Nat} {s : ByteArray} {w : World} {st : PS} {R : PS → (Nd × Bool) × PS} {M : Bool → PS → Bool × PS}
/-- What holds at the head of the loop. -/
structure SeE (b q5 : Nat) (s : ByteArray) (w : World) (st : PS) (R : PS → (Nd × Bool) × PS) (M : Bool → PS → Bool × PS) (CI : World → Prop) (J : PS → Prop) (st0 : PS) (T : Nat → Prop) (v : Value) (xs : List (Nd × Bool)) (W : World) : Prop where
  pf : PF b s W (R st0).2
  ok0 : PW s st0
  j0 : J st0
  ci : CI W
  fb : Fb b w W
  blk : ∃ (k : Int) (x y : Bool) (nm : ByteArray) (aw : Option Addr) (nw cw : Nat) (ar : Option Addr) (nr cr : Nat) (ak : Option Addr) (nk ck : Nat), Blk W q5 73 #[.int .i64 k, .bool x, .bool y, .string nm, .slice aw nw cw, .slice ar nr cr, .slice ak nk ck, .bool (R st0).1.2]
  row : RowOf ElE 73 w.heap.size W T v xs
  off : v.ownBlock ≠ some q5
  offT : ¬ T q5
  ser : ser s R (fun x => M x.2) st = (xs ++ (serM (s := s) R (fun x => M x.2) (R st0).1 (R st0).2).1, (serM (s := s) R (fun x => M x.2) (R st0).1 (R st0).2).2)
  ln : xs.length + rem s st0 ≤ 140001
set_option maxRecDepth 100000 in
set_option maxHeartbeats 4000000 in
theorem serE_any (kR kM : Nat) (fi1 ca1 fi2 ca2 : Array Value) (hE1 : Enters Tryz.prog kR) (hE2 : Enters Tryz.prog kM) (CI : World → Prop) (hCI : ∀ W W', CI W → Fb b W W' → CI W')
    (J : PS → Prop) (hJ : ∀ st, PW s st → J st → J (M (R st).1.2 (R st).2).2)
    (hR : ∀ W st, CI W → J st → PF b s W st → Calls Tryz.prog kR (fi1 ++ ca1) W (EnAn b s W (R st).1 (R st).2))
    (hM : ∀ W st (k : Int) (x y : Bool) (nm : ByteArray) (aw : Option Addr) (nw cw : Nat) (ar : Option Addr) (nr cr : Nat) (ak : Option Addr) (nk ck : Nat) (p : Bool), CI W → PF b s W st → Calls Tryz.prog kM (fi2 ++ #[.agg #[.int .i64 k, .bool x, .bool y, .string nm, .slice aw nw cw, .slice ar nr cr, .slice ak nk ck, .bool p]] ++ ca2) W (An b s W (.bool (M p st).1) (M p st).2))
    (hP : ∀ st, PW s st → PW s (M (R st).1.2 (R st).2).2) (hd : ∀ st, PW s st → (M (R st).1.2 (R st).2).1 = true → rem s (M (R st).1.2 (R st).2).2 < rem s st)
    (h : PF b s w st) (hc : CI w) (hj : J st) :
    Calls Tryz.prog 31 #[.func (.func kR) fi1 ca1, .func (.func kM) fi2 ca2] w (RowAn ElE 73 b s w (ser s R (fun x => M x.2) st).1 (ser s R (fun x => M x.2) st).2) := by
  obtain ⟨i0, hi0, hz0, hz1, hz2⟩ := info_parts infoEn
  have hi0H := Lib.hid hi0
  have hE1' : ∀ (args : Array Value) (w : World), (callFunc kR args).run Tryz.prog w = .ok (.enter kR args) w := hE1
  have hE2' : ∀ (args : Array Value) (w : World), (callFunc kM args).run Tryz.prog w = .ok (.enter kM args) w := hE2
  have hRH := Lib.hid hR
  have hMH := Lib.hid hM
  have hH := Lib.hid h
  have hcH := Lib.hid hc
  have hjH := Lib.hid hj
  have hJH := Lib.hid hJ
  have hCIH := Lib.hid hCI
  have hlt := h.lt
  have hPH := Lib.hid hP
  have hdH := Lib.hid hd
  clear hE1 hE2 hR hM h hc hi0 hCI hP hd hj hJ
  have hr1 := Lib.hid (hRH.out w st hcH.out hjH.out hH.out)
  go_enter Tryz.func31, Tryz.ntmps31
  go_upto_region 2 with (go_at_fn kR; refine hr1.out.mono ?_; rintro e w1 ⟨k1, x1, y1, nm1, aw1, nw1, cw1, ar1, nr1, cr1, ak1, nk1, ck1, T1, rfl, hN1, hT1, hA1, hF1⟩; have hN1H := Lib.hid hN1; have hT1H := Lib.hid hT1; have hA1H := Lib.hid hA1; have hF1H := Lib.hid hF1; clear hN1 hT1 hA1 hF1)
  obtain ⟨q5, hq5⟩ : ∃ q, w1.heap.size = q := ⟨_, rfl⟩
  obtain ⟨W1, hW1⟩ : ∃ W, w1.alloc (.cells #[.int .i64 k1, .bool x1, .bool y1, .string nm1, .slice aw1 nw1 cw1, .slice ar1 nr1 cr1, .slice ak1 nk1 ck1, .bool (R st).1.2] 73) = W := ⟨_, rfl⟩
  have hs1 : W1.heap.size = q5 + 1 := by rw [← hW1, World.size_alloc, hq5]
  have hb1 : Below w1.heap.size w1 W1 := by rw [← hW1]; exact (Below.refl _ _).alloc (Nat.le_refl _) _
  have hB1 : Blk W1 q5 73 #[.int .i64 k1, .bool x1, .bool y1, .string nm1, .slice aw1 nw1 cw1, .slice ar1 nr1 cr1, .slice ak1 nk1 ck1, .bool (R st).1.2] := by rw [← hW1, ← hq5]; exact Blk.new _ _ _
  rw [hW1, hq5]
  have hw1s : w.heap.size ≤ q5 := by rw [← hq5]; exact hF1H.out.size
  have hqH := Lib.hid hq5
  have c0 : W1.cell? ⟨q5, 0, none⟩ = some (.int .i64 k1) := hB1.cell 0
  have c1 : W1.cell? ⟨q5, 1, none⟩ = some (.bool x1) := hB1.cell 1
  have c2 : W1.cell? ⟨q5, 2, none⟩ = some (.bool y1) := hB1.cell 2
  have c3 : W1.cell? ⟨q5, 3, none⟩ = some (.string nm1) := hB1.cell 3
  have c4 : W1.cell? ⟨q5, 4, none⟩ = some (.slice aw1 nw1 cw1) := hB1.cell 4
  have c5 : W1.cell? ⟨q5, 5, none⟩ = some (.slice ar1 nr1 cr1) := hB1.cell 5
  have c6 : W1.cell? ⟨q5, 6, none⟩ = some (.slice ak1 nk1 ck1) := hB1.cell 6
  have c7 : W1.cell? ⟨q5, 7, none⟩ = some (.bool (R st).1.2) := hB1.cell 7
  have hb1H := Lib.hid hb1
  have hB1H := Lib.hid hB1
  have hs1H := Lib.hid hs1
  clear hW1 hb1 hB1 hq5
  go_wp2_with fail
  go_loopg [6] (rem s st) (fun g v wr => ∃ (st0 : PS) (T : Nat → Prop) (xs : List (Nd × Bool)), g = rem s st0 ∧ Hid (SeE b q5 s w st R M CI J st0 T v xs wr))
  case atStart =>
    have hb2 : Below W1.heap.size W1 (W1.alloc (.cells #[.int .i64 k1, .bool x1, .bool y1, .string nm1, .slice aw1 nw1 cw1, .slice ar1 nr1 cr1, .slice ak1 nk1 ck1, .bool (R st).1.2] 73)) := (Below.refl _ _).alloc (Nat.le_refl _) _
    have hB2 : Blk (W1.alloc (.cells #[.int .i64 k1, .bool x1, .bool y1, .string nm1, .slice aw1 nw1 cw1, .slice ar1 nr1 cr1, .slice ak1 nk1 ck1, .bool (R st).1.2] 73)) (q5 + 1) 73 #[.int .i64 k1, .bool x1, .bool y1, .string nm1, .slice aw1 nw1 cw1, .slice ar1 nr1 cr1, .slice ak1 nk1 ck1, .bool (R st).1.2] := by rw [← hs1H.out]; exact Blk.new _ _ _
    have hbb2 := (Fb.of_below (b := b) hb1H.out).trans (Fb.of_below hb2)
    have hbb := hF1H.out.trans hbb2
    have hNx := hN1H.out.keep (fun g hg => hbb2.block g (hT1H.out g hg).2 (by have := (hT1H.out g hg).1; omega)) (fun _ h => h)
    refine ⟨st, T1, [(R st).1], rfl, Lib.hid ⟨(hA1H.out.below hb1H.out).below hb2, hH.out.ok, hjH.out, hCIH.out _ _ hcH.out hbb, hbb, ⟨k1, x1, y1, nm1, aw1, nw1, cw1, ar1, nr1, cr1, ak1, nk1, ck1, hB1H.out.alloc _⟩, RowOf.one_ hB2 (by omega) (show ElE.at_ _ _ [.int .i64 k1, .bool x1, .bool y1, .string nm1, .slice aw1 nw1 cw1, .slice ar1 nr1 cr1, .slice ak1 nk1 ck1, .bool (R st).1.2] _ from ⟨_, hNx, rfl⟩) (fun g h => ⟨(hT1H.out g h).1, Nat.lt_of_lt_of_le (hT1H.out g h).2 hbb2.size, by have := (hT1H.out g h).2; have := hqH.out; omega⟩), ?_, fun h => by have := (hT1H.out _ h).2; have := hqH.out; omega, ?_, ?_⟩⟩
    · show some (q5 + 1) ≠ some q5
      intro e
      injection e with e
      omega
    · rw [ser_is R (fun x => M x.2) hPH.out hdH.out hH.out.ok]
      rfl
    · have := rem_bd hH.out.ok
      show 1 + rem s st ≤ 140001
      omega
  case round =>
    clear hr1 hA1H hF1H hb1H hB1H hs1H hN1H hT1H hqH c0 c1 c2 c3 c4 c5 c6 c7
    obtain ⟨st0, T, xs, hg, hI⟩ := hrel
    obtain ⟨k2, x2, y2, nm2, aw2, nw2, cw2, ar2, nr2, cr2, ak2, nk2, ck2, hB⟩ := hI.out.blk
    have hm := Lib.hid (hMH.out wr (R st0).2 k2 x2 y2 nm2 aw2 nw2 cw2 ar2 nr2 cr2 ak2 nk2 ck2 (R st0).1.2 hI.out.ci hI.out.pf)
    have hser := Lib.hid hI.out.ser
    have yy7 : wr.cell? ⟨q5, 7, none⟩ = some (.bool (R st0).1.2) := hB.cell 7
    have yy0 : wr.cell? ⟨q5, 0, none⟩ = some (.int .i64 k2) := hB.cell 0
    have yy1 : wr.cell? ⟨q5, 1, none⟩ = some (.bool x2) := hB.cell 1
    have yy2 : wr.cell? ⟨q5, 2, none⟩ = some (.bool y2) := hB.cell 2
    have yy3 : wr.cell? ⟨q5, 3, none⟩ = some (.string nm2) := hB.cell 3
    have yy4 : wr.cell? ⟨q5, 4, none⟩ = some (.slice aw2 nw2 cw2) := hB.cell 4
    have yy5 : wr.cell? ⟨q5, 5, none⟩ = some (.slice ar2 nr2 cr2) := hB.cell 5
    have yy6 : wr.cell? ⟨q5, 6, none⟩ = some (.slice ak2 nk2 ck2) := hB.cell 6
    obtain ⟨K, hrow, hat⟩ := hI.out.row.row
    obtain ⟨a, c, rfl⟩ := ownsRow_slice hrow
    obtain ⟨mb, hmb⟩ : ∃ v, (M (R st0).1.2 (R st0).2).1 = v := ⟨_, rfl⟩
    rw [hmb] at hm
    have hln := hI.out.ln
    obtain ⟨n, hn⟩ : ∃ n, xs.length = n := ⟨_, rfl⟩
    have hnH := Lib.hid hn
    rw [hn] at hln ⊢
    have hBH := Lib.hid hB
    clear hrow hat hn hB
    cases mb
    · have hs2 := Lib.hid (show ser s R (fun x => M x.2) st = (xs, (M (R st0).1.2 (R st0).2).2) by
        rw [hser.out]
        unfold serM
        rw [hmb]
        simp)
      clear hmb
      go_wp2_with (go_at_fn kM; refine hm.out.mono ?_; rintro e w2 ⟨rfl, hA2, hF2⟩; have hA2H := Lib.hid hA2; have hF2H := Lib.hid hF2; clear hA2 hF2)
      go_ret
      obtain ⟨hdn, hge⟩ := (hI.out.row.keep hF2H.out (by exact hlt)).done
      unfold RowAn
      rw [hs2.out]
      rw [hnH.out] at hdn ⊢
      exact ⟨a, c, _, rfl, hdn, fun g hg => by rw [hnH.out] at hge; exact hge g hg, hA2H.out, hI.out.fb.trans hF2H.out⟩
    · have hd2 := hdH.out st0 hI.out.ok0 hmb
      have hp2 := hPH.out st0 hI.out.ok0
      have hj2 := hJH.out st0 hI.out.ok0 hI.out.j0
      have hse2 := Lib.hid (show serM (s := s) R (fun x => M x.2) (R st0).1 (R st0).2 = ser s R (fun x => M x.2) (M (R st0).1.2 (R st0).2).2 by unfold serM; rw [hmb]; rfl)
      obtain ⟨st2, hst2⟩ : ∃ v, (M (R st0).1.2 (R st0).2).2 = v := ⟨_, rfl⟩
      rw [hst2] at hm hd2 hp2 hse2 hj2
      have hser2 := ser_is R (fun x => M x.2) hPH.out hdH.out hp2
      have hr2 := Lib.hid (fun W hc hp => hRH.out W st2 hc hj2 hp)
      have hser2H := Lib.hid hser2
      clear hmb hst2 hser2
      have hd2H := Lib.hid hd2
      have hp2H := Lib.hid hp2
      have hj2H := Lib.hid hj2
      have f7 := hBH.out.frozen 7
      have f0 := hBH.out.frozen 0
      have f1 := hBH.out.frozen 1
      have f2 := hBH.out.frozen 2
      have f3 := hBH.out.frozen 3
      have f4 := hBH.out.frozen 4
      have f5 := hBH.out.frozen 5
      have f6 := hBH.out.frozen 6
      have hq5b : q5 ≠ b := by omega
      have hq516 : 8 ≤ q5 := by have := hH.out.b16; omega
      clear hd2 hp2 hj2
      go_upto_region 4 with (go_at_fn kM; refine hm.out.mono ?_; rintro e w2 ⟨rfl, hA2, hF2⟩; have hA2H := Lib.hid hA2; have hF2H := Lib.hid hF2; clear hA2 hF2)
      have hr3 := Lib.hid (hr2.out w2 (hCIH.out _ _ hI.out.ci hF2H.out) hA2H.out)
      have hB2 := Lib.hid (hF2H.out.blk hBH.out hq5b)
      go_upto_region 5 with (go_at_fn kR; refine hr3.out.mono ?_; rintro e w3 ⟨k3, x3, y3, nm3, aw3, nw3, cw3, ar3, nr3, cr3, ak3, nk3, ck3, T3, rfl, hN3, hT3, hA3, hF3⟩; have hN3H := Lib.hid hN3; have hT3H := Lib.hid hT3; have hA3H := Lib.hid hA3; have hF3H := Lib.hid hF3; have hB3 := Lib.hid (hF3.blk hB2.out hq5b); have k0_ : w3.cell? ⟨q5, 0, none⟩ = some (.int .i64 k2) := hB3.out.cell 0; have k1_ : w3.cell? ⟨q5, 1, none⟩ = some (.bool x2) := hB3.out.cell 1; have k2_ : w3.cell? ⟨q5, 2, none⟩ = some (.bool y2) := hB3.out.cell 2; have k3_ : w3.cell? ⟨q5, 3, none⟩ = some (.string nm2) := hB3.out.cell 3; have k4_ : w3.cell? ⟨q5, 4, none⟩ = some (.slice aw2 nw2 cw2) := hB3.out.cell 4; have k5_ : w3.cell? ⟨q5, 5, none⟩ = some (.slice ar2 nr2 cr2) := hB3.out.cell 5; have k6_ : w3.cell? ⟨q5, 6, none⟩ = some (.slice ak2 nk2 ck2) := hB3.out.cell 6; have k7_ : w3.cell? ⟨q5, 7, none⟩ = some (.bool (R st0).1.2) := hB3.out.cell 7; have g7 := hB3.out.frozen 7; have g0 := hB3.out.frozen 0; have g1 := hB3.out.frozen 1; have g2 := hB3.out.frozen 2; have g3 := hB3.out.frozen 3; have g4 := hB3.out.frozen 4; have g5 := hB3.out.frozen 5; have g6 := hB3.out.frozen 6; clear hN3 hT3 hA3 hF3)
      have hrow3 := hI.out.row.keep (hF2H.out.trans hF3H.out) hlt
      have hfb3 := hI.out.fb.trans (hF2H.out.trans hF3H.out)
      have hT3q : ¬ T3 q5 := fun e => by have := (hT3H.out _ e).1; have := hB2.out.lt; omega
      have hpf4 : PF b s (put8 w3 q5 (.int .i64 k3) (.bool x3) (.bool y3) (.string nm3) (.slice aw3 nw3 cw3) (.slice ar3 nr3 cr3) (.slice ak3 nk3 ck3) (.bool (R st2).1.2)) (R st2).2 := hA3H.out.other hB3.out (by decide) hq5b hq516 (Nat.le_of_eq (put8_size _ _ _ _ _ _ _ _ _ _).symm) (fun g hg => put8_far _ _ _ _ _ _ _ _ _ _ hg)
      have hfb4 := put8_fb hfb3 hw1s (.int .i64 k3) (.bool x3) (.bool y3) (.string nm3) (.slice aw3 nw3 cw3) (.slice ar3 nr3 cr3) (.slice ak3 nk3 ck3) (.bool (R st2).1.2)
      have hB4 : Blk (put8 w3 q5 (.int .i64 k3) (.bool x3) (.bool y3) (.string nm3) (.slice aw3 nw3 cw3) (.slice ar3 nr3 cr3) (.slice ak3 nk3 ck3) (.bool (R st2).1.2)) q5 73 #[.int .i64 k3, .bool x3, .bool y3, .string nm3, .slice aw3 nw3 cw3, .slice ar3 nr3 cr3, .slice ak3 nk3 ck3, .bool (R st2).1.2] := put8_blk hB3.out _ _ _ _ _ _ _ _
      have hN4 : NdAt (put8 w3 q5 (.int .i64 k3) (.bool x3) (.bool y3) (.string nm3) (.slice aw3 nw3 cw3) (.slice ar3 nr3 cr3) (.slice ak3 nk3 ck3) (.bool (R st2).1.2)) T3 [.int .i64 k3, .bool x3, .bool y3, .string nm3, .slice aw3 nw3 cw3, .slice ar3 nr3 cr3, .slice ak3 nk3 ck3] (R st2).1.1 := hN3H.out.keep (fun g hg => put8_far _ _ _ _ _ _ _ _ _ _ (fun e => hT3q (e ▸ hg))) (fun _ h => h)
      have hs4 : (put8 w3 q5 (.int .i64 k3) (.bool x3) (.bool y3) (.string nm3) (.slice aw3 nw3 cw3) (.slice ar3 nr3 cr3) (.slice ak3 nk3 ck3) (.bool (R st2).1.2)).heap.size = w3.heap.size := put8_size _ _ _ _ _ _ _ _ _ _
      have hrow4 := hrow3.same (w' := put8 w3 q5 (.int .i64 k3) (.bool x3) (.bool y3) (.string nm3) (.slice aw3 nw3 cw3) (.slice ar3 nr3 cr3) (.slice ak3 nk3 ck3) (.bool (R st2).1.2)) (Nat.le_of_eq (put8_size _ _ _ _ _ _ _ _ _ _).symm) (fun g hg hc => put8_far _ _ _ _ _ _ _ _ _ _ (fun e => by
        subst e
        rcases hc with hc | hc
        · exact hI.out.offT hc
        · exact hI.out.off hc))
      obtain ⟨W4, hW4⟩ : ∃ W, put8 w3 q5 (.int .i64 k3) (.bool x3) (.bool y3) (.string nm3) (.slice aw3 nw3 cw3) (.slice ar3 nr3 cr3) (.slice ak3 nk3 ck3) (.bool (R st2).1.2) = W := ⟨_, rfl⟩
      rw [hW4] at hpf4 hfb4 hB4 hrow4 hN4 hs4
      unfold put8 put7 at hW4
      rw [hW4]
      clear hW4 f0 f1 f2 f3 f4 f5 f6 f7 g0 g1 g2 g3 g4 g5 g6 g7 k0_ k1_ k2_ k3_ k4_ k5_ k6_ k7_ yy0 yy1 yy2 yy3 yy4 yy5 yy6 yy7 hrow3
      have yy7 : W4.cell? ⟨q5, 7, none⟩ = some (.bool (R st2).1.2) := hB4.cell 7
      have yy0 : W4.cell? ⟨q5, 0, none⟩ = some (.int .i64 k3) := hB4.cell 0
      have yy1 : W4.cell? ⟨q5, 1, none⟩ = some (.bool x3) := hB4.cell 1
      have yy2 : W4.cell? ⟨q5, 2, none⟩ = some (.bool y3) := hB4.cell 2
      have yy3 : W4.cell? ⟨q5, 3, none⟩ = some (.string nm3) := hB4.cell 3
      have yy4 : W4.cell? ⟨q5, 4, none⟩ = some (.slice aw3 nw3 cw3) := hB4.cell 4
      have yy5 : W4.cell? ⟨q5, 5, none⟩ = some (.slice ar3 nr3 cr3) := hB4.cell 5
      have yy6 : W4.cell? ⟨q5, 6, none⟩ = some (.slice ak3 nk3 ck3) := hB4.cell 6
      have hb5 : Below W4.heap.size W4 (W4.alloc (.cells #[.int .i64 k3, .bool x3, .bool y3, .string nm3, .slice aw3 nw3 cw3, .slice ar3 nr3 cr3, .slice ak3 nk3 ck3, .bool (R st2).1.2] 73)) := (Below.refl _ _).alloc (Nat.le_refl _) _
      have hrow5 := hrow4.same hb5.size (fun g hg _ => hb5.block g hg)
      have hN5 := Lib.hid (hN4.keep (fun g hg => hb5.block g (by rw [hs4]; exact (hT3H.out g hg).2)) (fun _ h => h))
      have hs5 : (W4.alloc (.cells #[.int .i64 k3, .bool x3, .bool y3, .string nm3, .slice aw3 nw3 cw3, .slice ar3 nr3 cr3, .slice ak3 nk3 ck3, .bool (R st2).1.2] 73)).heap.size = W4.heap.size + 1 := World.size_alloc _ _
      have hT5 := Lib.hid (fun g (hg : T3 g) => (show w.heap.size ≤ g ∧ g < (W4.alloc (.cells #[.int .i64 k3, .bool x3, .bool y3, .string nm3, .slice aw3 nw3 cw3, .slice ar3 nr3 cr3, .slice ak3 nk3 ck3, .bool (R st2).1.2] 73)).heap.size ∧ w2.heap.size ≤ g from ⟨Nat.le_trans (hI.out.fb.trans hF2H.out).size (hT3H.out g hg).1, by have := (hT3H.out g hg).2; omega, (hT3H.out g hg).1⟩))
      have hfb5 := Lib.hid (hfb4.trans (Fb.of_below hb5))
      have hpf5 := Lib.hid (hpf4.below hb5)
      have hB5 := Lib.hid (hB4.alloc (.cells #[.int .i64 k3, .bool x3, .bool y3, .string nm3, .slice aw3 nw3 cw3, .slice ar3 nr3 cr3, .slice ak3 nk3 ck3, .bool (R st2).1.2] 73))
      have hsz5 := Lib.hid hfb4.size
      have hB5q := hB4.lt
      have hrow5H := Lib.hid hrow5
      obtain ⟨K5, hown5, hat5⟩ := hrow5.row
      have hrl := Lib.hid (fun g (hg : (Value.slice a xs.length c).ownBlock = some g) => (show g < w2.heap.size from row_lt (hI.out.row.keep hF2H.out hlt).row.choose_spec.1 hg))
      rw [hnH.out] at hown5 hrl
      have hown5H := Lib.hid hown5
      have hat5H := Lib.hid hat5
      clear hrow5 hown5 hat5 hb5 hfb4 hpf4 hB4 hrow4 hfb3 hs5 hN4 hs4
      go_wp2_with (at_builtin; refine wpList_app rfl _ _ 70 rfl w.heap.size 73 i0 _ 8 112 Tryz.underlying70 hi0H.out hz0 hz1 hz2 rfl (by decide) (.slice a n c) n (flat K5 n) (by rfl) hown5H.out (some ⟨W4.heap.size, 0, none⟩) 1 1 [.int .i64 k3, .bool x3, .bool y3, .string nm3, .slice aw3 nw3 cw3, .slice ar3 nr3 cr3, .slice ak3 nk3 ck3, .bool (R st2).1.2] (by rfl) (by rfl) (src_blk (Blk.new W4 _ _)) (by intro u hu; simp at hu; rcases hu with rfl | rfl | rfl | rfl | rfl | rfl | rfl | rfl <;> rfl) (by omega) (by omega) (Nat.le_trans hsz5.out (by rw [World.size_alloc]; exact Nat.le_succ _)) ?_; intro a6 c6 w6 hown6 hg6 ho6)
      have hnew := hrow5H.out.app (Tx := T3) (x := (R st2).1) (a' := a6) (c' := c6) (m := n + 1) (w' := w6) (cx := [.int .i64 k3, .bool x3, .bool y3, .string nm3, .slice aw3 nw3 cw3, .slice ar3 nr3 cr3, .slice ak3 nk3 ck3, .bool (R st2).1.2]) ⟨K5, by rw [hnH.out]; exact hown6, hat5H.out⟩ (by rw [hnH.out]) ⟨_, hN5.out, rfl⟩ (fun g hg h => by rw [hnH.out] at hg; have := hrl.out g hg; have := (hT5.out g h).2.2; omega) (fun g h => ⟨(hT5.out g h).1, (hT5.out g h).2.1⟩) (by rw [hnH.out]; exact hg6) (by rw [hnH.out]; exact ho6)
      have hq5s : q5 < W4.heap.size := hB5q
      go_roundg (rem s st2)
      case measure => rw [hg]; exact hd2H.out
      case rel =>
        have hoff : (Value.slice a n c).ownBlock ≠ some q5 := by rw [← hnH.out]; exact hI.out.off
        refine ⟨st2, _, xs ++ [(R st2).1], rfl, Lib.hid ⟨hpf5.out.grown hown5H.out (by decide) hlt hg6, hp2H.out, hj2H.out, hCIH.out _ _ hcH.out (hfb5.out.grown hown5H.out (Nat.le_refl _) hg6), hfb5.out.grown hown5H.out (Nat.le_refl _) hg6, ⟨k3, x3, y3, nm3, aw3, nw3, cw3, ar3, nr3, cr3, ak3, nk3, ck3, (hg6.block q5 (by rw [World.size_alloc]; omega) (fun e => hoff e.symm)).trans hB5.out⟩, hnew, fun e => ?_, fun h => h.elim hI.out.offT hT3q, ?_, ?_⟩⟩
        · rcases ho6 with h6 | h6
          · exact hoff (h6.symm.trans e)
          · have h7 := h6.symm.trans e
            rw [World.size_alloc] at h7
            injection h7 with h7
            omega
        · rw [hser.out, hse2.out, hser2H.out]
          simp
        · have := hd2H.out
          rw [List.length_append, hnH.out]
          show n + 1 + rem s st2 ≤ 140001
          omega
end
end Go.Proofs.YtnhbcmhinhncfaaGreatDoor
/- A body's closures. Conditions: the parser lies as stated; a command's contract is handed in. -/
namespace Go.Proofs.YtnhbcmhinhncfaaGreatDoor
open Go.RowKit Go.Shelf Go.PlainAid
set_option linter.unusedVariables false
set_option linter.unusedSimpArgs false
attribute [local go_sem] Oper.semAt_some
section
variable {b : Nat} {s : ByteArray} {w : World} {st : PS} {B : Int → PS → Nd × PS} {d : Int}
/-- How a body goes on, by the truth alone. -/
abbrev bP (s : ByteArray) (p : Bool) (st : PS) : Bool × PS := (p && !closes s st, if p then fill s st else st)
theorem bP_is (s : ByteArray) : (fun (x : Nd × Bool) => bP s x.2) = bM s := rfl
set_option maxRecDepth 100000 in
set_option maxHeartbeats 4000000 in
theorem body2_f {q2 : Nat} (k : Int) (x y : Bool) (nm : ByteArray) (aw : Option Addr) (nw cw : Nat) (ar : Option Addr) (nr cr : Nat) (ak : Option Addr) (nk ck : Nat) (p : Bool) (hb2 : Bx b q2 w) (hq2 : q2 ≠ b) (h : PF b s w st) :
    Calls Tryz.prog 112 #[.agg #[.int .i64 k, .bool x, .bool y, .string nm, .slice aw nw cw, .slice ar nr cr, .slice ak nk ck, .bool p], ptr q2] w (An b s w (.bool (bP s p st).1) (bP s p st).2) := by
  obtain ⟨q, hq⟩ : ∃ q, w.heap.size = q := ⟨_, rfl⟩
  obtain ⟨W, hW⟩ : ∃ W, w.alloc (.cells #[.int .i64 k, .bool x, .bool y, .string nm, .slice aw nw cw, .slice ar nr cr, .slice ak nk ck, .bool p] 73) = W := ⟨_, rfl⟩
  have hb1 : Below w.heap.size w W := by rw [← hW]; exact (Below.refl _ _).alloc (Nat.le_refl _) _
  have hX := Lib.hid (show Bx b q2 W by rw [← hW]; exact hb2.alloc _)
  have hE := Lib.hid (show Blk W q 73 #[.int .i64 k, .bool x, .bool y, .string nm, .slice aw nw cw, .slice ar nr cr, .slice ak nk ck, .bool p] by rw [← hW, ← hq]; exact Blk.new _ _ _)
  have hA1 := Lib.hid (h.below hb1)
  have hF1 := Lib.hid (Fb.of_below (b := b) hb1)
  have hc := Lib.hid (closes_f hA1.out)
  obtain ⟨o, ho⟩ : ∃ x, closes s st = x := ⟨_, rfl⟩
  have hr := Lib.hid (show bP s p st = (p && !o, if p then fill s st else st) by rw [← ho])
  rw [ho] at hc
  rw [hr.out]
  have c0 : W.cell? ⟨q2, 0, none⟩ = some (ptr b) := hX.out.cell 0
  have e7 : W.cell? ⟨q, 7, none⟩ = some (.bool p) := hE.out.cell 7
  have hWH := Lib.hid hW
  have hqH := Lib.hid hq
  clear hW hb1 h hb2 ho hq
  cases p
  · go_enter Tryz.func112, Tryz.ntmps112
    go_upto_region 1 with fail
    rw [hWH.out, hqH.out]
    go_wp2_with fail
    go_ret
    exact ⟨rfl, hA1.out, hF1.out⟩
  · go_enter Tryz.func112, Tryz.ntmps112
    go_upto_region 1 with fail
    rw [hWH.out, hqH.out]
    go_wp2_with (go_at_call 113; refine hc.out.mono ?_; rintro e w2 ⟨rfl, hA2, hF2⟩; have hA2H := Lib.hid hA2; have hF2H := Lib.hid hF2; clear hA2 hF2)
    go_ret
    exact ⟨by simp, PF.fill hA2H.out, hF1.out.trans hF2H.out⟩
end
end Go.Proofs.YtnhbcmhinhncfaaGreatDoor
/- A body's first closure. Conditions: the parser lies as stated; a command's contract is handed in. -/
namespace Go.Proofs.YtnhbcmhinhncfaaGreatDoor
open Go.RowKit Go.Shelf Go.PlainAid
set_option linter.unusedVariables false
set_option linter.unusedSimpArgs false
attribute [local go_sem] Oper.semAt_some
section
variable {b : Nat} {s : ByteArray} {w : World} {st : PS} {B : Int → PS → Nd × PS} {d : Int}
set_option maxRecDepth 100000 in
set_option maxHeartbeats 8000000 in
theorem body1_f {q0 q1 : Nat} (hB : ∀ (d : Int) (st : PS), PW s st → Lo s st (B d st).2) (hC : CmdC s B d) (hb0 : Bx b q0 w) (hq0 : q0 ≠ b) (hb1 : Bi d q1 w) (h : PF b s w st) : Calls Tryz.prog 111 #[ptr q0, ptr q1] w (EnAn b s w (bR s B d st).1 (bR s B d st).2) := by
  obtain ⟨q4, hq4⟩ : ∃ q, w.heap.size = q := ⟨_, rfl⟩
  have hlt := h.lt
  have h16 := h.b16
  have hqb : q4 ≠ b := by omega
  have hq16 : 8 ≤ q4 := by omega
  obtain ⟨W, hW⟩ : ∃ W, w.alloc (.cells N8 73) = W := ⟨_, rfl⟩
  have hbl : Below w.heap.size w W := by rw [← hW]; exact (Below.refl _ _).alloc (Nat.le_refl _) _
  have hZ := Lib.hid (show Blk W q4 73 N8 by rw [← hW, ← hq4]; exact Blk.new _ _ _)
  have hX := Lib.hid (show Bx b q0 W by rw [← hW]; exact hb0.alloc _)
  have e0 : W.cell? ⟨q0, 0, none⟩ = some (ptr b) := hX.out.cell 0
  have e1 : W.cell? ⟨q1, 0, none⟩ = some (.int .i64 d) := by rw [← hW]; exact (hb1.alloc _).cell 0
  have hF1 := Lib.hid (Fb.of_below (b := b) hbl)
  have hc := Lib.hid (entry_f (d := d) hB hC (h.below hbl))
  have hr := Lib.hid (show bR s B d st = (((entP s B d st).1.1, (entP s B d st).1.2 || (peekP s (entP s B d st).2).kind == 3), newl s (entP s B d st).2) from rfl)
  obtain ⟨A, hA⟩ : ∃ A, entP s B d st = A := ⟨_, rfl⟩
  rw [hA] at hr hc
  obtain ⟨⟨n, p⟩, st1⟩ := A
  have hpk := Lib.hid (fun W (hp : PF b s W st1) => peek_f hp)
  have hnl := Lib.hid (fun W (hp : PF b s W st1) => newlines_f hp)
  obtain ⟨t, ht⟩ : ∃ t, peekP s st1 = t := ⟨_, rfl⟩
  have hr2 := hr.out
  dsimp only at hr2
  rw [ht] at hpk hr2
  have hWH := Lib.hid hW
  have hqH := Lib.hid hq4
  have f0 := fld0 t
  cases p
  · obtain ⟨m, hm⟩ : ∃ m, (t.kind == 3) = m := ⟨_, rfl⟩
    rw [Bool.false_or, hm] at hr2
    have hmH := Lib.hid hm
    rw [hr2]
    clear hW hbl h hq4 hA hC hB hb0 hb1 hr hr2 ht hm
    go_enter Tryz.func111, Tryz.ntmps111
    go_upto_region 1 with fail
    rw [hWH.out, hqH.out]
    go_upto_region 2 with (go_at_call 33; refine hc.out.mono ?_; rintro e w3 ⟨k, x, y, nm, aw, nw, cw, ar, nr, cr, ak, nk, ck, T, rfl, hN, hT, hA3, hF3⟩; have hN3 := Lib.hid hN; have hT3 := Lib.hid hT; have hA3H := Lib.hid hA3; have hF3H := Lib.hid (hF1.out.trans hF3); have hZ3 := Lib.hid (hF3.blk hZ.out hqb); have hX3 := Lib.hid (hF3.blk hX.out hq0); clear hN hT hA3 hF3)
    obtain ⟨q5, hq5⟩ : ∃ q, w3.heap.size = q := ⟨_, rfl⟩
    obtain ⟨W4, hW4⟩ : ∃ W, w3.alloc (.cells #[.int .i64 k, .bool x, .bool y, .string nm, .slice aw nw cw, .slice ar nr cr, .slice ak nk ck, .bool false] 73) = W := ⟨_, rfl⟩
    have hb4 : Below w3.heap.size w3 W4 := by rw [← hW4]; exact (Below.refl _ _).alloc (Nat.le_refl _) _
    have hE4 := Lib.hid (show Blk W4 q5 73 #[.int .i64 k, .bool x, .bool y, .string nm, .slice aw nw cw, .slice ar nr cr, .slice ak nk ck, .bool false] by rw [← hW4, ← hq5]; exact Blk.new _ _ _)
    rw [hW4, hq5]
    have hHd4 := Lib.hid ((show Hd b w n k x y nm aw nw cw ar nr cr ak nk ck T w3 from ⟨hN3.out, fun g hg => ⟨Nat.le_trans hF1.out.size (hT3.out g hg).1, (hT3.out g hg).2⟩⟩).keep (Fb.of_below hb4) hlt)
    have hT4 := Lib.hid (show ¬ T q4 from fun e => by have := (hT3.out q4 e).1; have := hZ.out.lt; omega)
    have hT5 := Lib.hid (show ¬ T q5 from fun e => by have := (hT3.out q5 e).2; omega)
    have hA4 := Lib.hid (hA3H.out.below hb4)
    have hF4 := Lib.hid (hF3H.out.trans (Fb.of_below hb4))
    have hZ4 := Lib.hid ((Fb.of_below (b := b) hb4).blk hZ3.out hqb)
    have hX4 := Lib.hid ((Fb.of_below (b := b) hb4).blk hX3.out hq0)
    have hq5b : q5 ≠ b := by have := hF3H.out.size; omega
    have hq516 : 8 ≤ q5 := by have := hF3H.out.size; omega
    have hw5 : w.heap.size ≤ q5 := by have := hF3H.out.size; omega
    have hq54 : ¬ q5 = q4 := by have := hZ3.out.lt; omega
    have hq45 : ¬ q4 = q5 := fun e => hq54 e.symm
    have hq50 : q0 ≠ q5 := by have := hX3.out.lt; omega
    have hqw := Lib.hid (show w.heap.size ≤ q4 from Nat.le_of_eq hqH.out)
    have hpc := Lib.hid (hpk.out W4 hA4.out)
    have x0 : W4.cell? ⟨q0, 0, none⟩ = some (ptr b) := hX4.out.cell 0
    have p7 : W4.cell? ⟨q5, 7, none⟩ = some (.bool false) := hE4.out.cell 7
    have r7 := hE4.out.frozen 7
    clear hb4 hW4 hq5 hpk hN3 hT3 hA3H hF3H hZ3 hX3 hc
    have key : Hid (∀ (w5 : World) (v : Bool), PF b s w5 st1 → Fb b W4 w5 → Blk w5 q5 73 #[.int .i64 k, .bool x, .bool y, .string nm, .slice aw nw cw, .slice ar nr cr, .slice ak nk ck, .bool false] →
        PF b s (w5.setCell ⟨q5, 7, none⟩ (.bool v)) st1 ∧ Fb b w (w5.setCell ⟨q5, 7, none⟩ (.bool v)) ∧ Blk (w5.setCell ⟨q5, 7, none⟩ (.bool v)) q5 73 #[.int .i64 k, .bool x, .bool y, .string nm, .slice aw nw cw, .slice ar nr cr, .slice ak nk ck, .bool v] ∧ Blk (w5.setCell ⟨q5, 7, none⟩ (.bool v)) q4 73 N8 ∧ Blk (w5.setCell ⟨q5, 7, none⟩ (.bool v)) q0 53 #[ptr b] ∧ Hd b w n k x y nm aw nw cw ar nr cr ak nk ck T (w5.setCell ⟨q5, 7, none⟩ (.bool v))) := Lib.hid (fun w5 v hp hf hE => by
      refine ⟨hp.write hE (by decide) hq5b hq516, (hF4.out.trans hf).new_ hw5 _ _, hE.set_ 7 _, (hf.blk hZ4.out hqb).far hq45 _, (hf.blk hX4.out hq0).far hq50 _, ?_⟩
      have h9 := hHd4.out.keep hf hlt
      exact ⟨h9.at_.keep (fun g hg => Below.heap_setCell _ _ _ _ (fun e => hT5.out (by have e2 : g = q5 := e; rw [e2] at hg; exact hg))) (fun _ h => h), fun g hg => ⟨(h9.ge g hg).1, by rw [World.size_setCell]; exact (h9.ge g hg).2⟩⟩)
    go_upto_region 3 with (go_at_call 20; refine hpc.out.mono ?_; rintro e w5 ⟨rfl, hA5, hF5⟩; have hA5H := Lib.hid hA5; have hF5H := Lib.hid hF5; have hE5 := Lib.hid (hF5.blk hE4.out hq5b); have p5 : w5.cell? ⟨q5, 7, none⟩ = some (.bool false) := hE5.out.cell 7; have r5 := hE5.out.frozen 7; clear hA5 hF5; dsimp only [tkV])
    rw [hmH.out]
    obtain ⟨hA6, hF6, hE6, hZ6, hX6, hHd6⟩ := key.out w5 m hA5H.out hF5H.out hE5.out
    have hA6H := Lib.hid hA6
    have hF6H := Lib.hid hF6
    have hE6H := Lib.hid hE6
    have hZ6H := Lib.hid hZ6
    have hX6H := Lib.hid hX6
    have hHd6H := Lib.hid hHd6
    obtain ⟨W6, hW6⟩ : ∃ W, w5.setCell ⟨q5, 7, none⟩ (.bool m) = W := ⟨_, rfl⟩
    rw [hW6] at hA6H hF6H hE6H hZ6H hX6H hHd6H
    rw [hW6]
    clear hA6 hF6 hE6 hZ6 hX6 hHd6 hW6 key p7 r7 x0
    have x6 : W6.cell? ⟨q0, 0, none⟩ = some (ptr b) := hX6H.out.cell 0
    go_upto_region 4 with (go_at_call 19; refine (hnl.out _ hA6H.out).mono ?_; rintro e w7 ⟨rfl, hA7, hF7⟩; have hA7H := Lib.hid hA7; have hF7H := Lib.hid hF7; clear hA7 hF7)
    have hE7 := Lib.hid (hF7H.out.blk hE6H.out hq5b)
    have hZ7 := Lib.hid (hF7H.out.blk hZ6H.out hqb)
    have c0 : w7.cell? ⟨q5, 0, none⟩ = some (.int .i64 k) := hE7.out.cell 0
    have c1 : w7.cell? ⟨q5, 1, none⟩ = some (.bool x) := hE7.out.cell 1
    have c2 : w7.cell? ⟨q5, 2, none⟩ = some (.bool y) := hE7.out.cell 2
    have c3 : w7.cell? ⟨q5, 3, none⟩ = some (.string nm) := hE7.out.cell 3
    have c4 : w7.cell? ⟨q5, 4, none⟩ = some (.slice aw nw cw) := hE7.out.cell 4
    have c5 : w7.cell? ⟨q5, 5, none⟩ = some (.slice ar nr cr) := hE7.out.cell 5
    have c6 : w7.cell? ⟨q5, 6, none⟩ = some (.slice ak nk ck) := hE7.out.cell 6
    have c7 : w7.cell? ⟨q5, 7, none⟩ = some (.bool m) := hE7.out.cell 7
    have z0 : w7.cell? ⟨q4, 0, none⟩ = some (.int .i64 0) := hZ7.out.cell 0
    have z1 : w7.cell? ⟨q4, 1, none⟩ = some (.bool false) := hZ7.out.cell 1
    have z2 : w7.cell? ⟨q4, 2, none⟩ = some (.bool false) := hZ7.out.cell 2
    have z3 : w7.cell? ⟨q4, 3, none⟩ = some (.string ⟨#[]⟩) := hZ7.out.cell 3
    have z4 : w7.cell? ⟨q4, 4, none⟩ = some (.slice none 0 0) := hZ7.out.cell 4
    have z5 : w7.cell? ⟨q4, 5, none⟩ = some (.slice none 0 0) := hZ7.out.cell 5
    have z6 : w7.cell? ⟨q4, 6, none⟩ = some (.slice none 0 0) := hZ7.out.cell 6
    have z7 : w7.cell? ⟨q4, 7, none⟩ = some (.bool false) := hZ7.out.cell 7
    have g0 := hZ7.out.frozen 0
    have g1 := hZ7.out.frozen 1
    have g2 := hZ7.out.frozen 2
    have g3 := hZ7.out.frozen 3
    have g4 := hZ7.out.frozen 4
    have g5 := hZ7.out.frozen 5
    have g6 := hZ7.out.frozen 6
    have g7 := hZ7.out.frozen 7
    go_wp2_with fail
    refine bodyPost_ret (results_cell_row rfl _ _ q4 73 #[.int .i64 k, .bool x, .bool y, .string nm, .slice aw nw cw, .slice ar nr cr, .slice ak nk ck, .bool m] (0, 0) _ rfl (put8_blk hZ7.out _ _ _ _ _ _ _ _) Tryz.underlying73 rfl (by kernel_rfl)) rfl ?_
    exact (hHd6H.out.keep hF7H.out hlt).en hZ7.out hT4.out hqw.out hqb hq16 hA7H.out (hF6H.out.trans hF7H.out)
  · rw [Bool.true_or] at hr2
    rw [hr2]
    clear hW hbl h hq4 hA hC hB hb0 hb1 hr hr2 ht
    go_enter Tryz.func111, Tryz.ntmps111
    go_upto_region 1 with fail
    rw [hWH.out, hqH.out]
    go_upto_region 2 with (go_at_call 33; refine hc.out.mono ?_; rintro e w3 ⟨k, x, y, nm, aw, nw, cw, ar, nr, cr, ak, nk, ck, T, rfl, hN, hT, hA3, hF3⟩; have hN3 := Lib.hid hN; have hT3 := Lib.hid hT; have hA3H := Lib.hid hA3; have hF3H := Lib.hid (hF1.out.trans hF3); have hZ3 := Lib.hid (hF3.blk hZ.out hqb); have hX3 := Lib.hid (hF3.blk hX.out hq0); clear hN hT hA3 hF3)
    obtain ⟨q5, hq5⟩ : ∃ q, w3.heap.size = q := ⟨_, rfl⟩
    obtain ⟨W4, hW4⟩ : ∃ W, w3.alloc (.cells #[.int .i64 k, .bool x, .bool y, .string nm, .slice aw nw cw, .slice ar nr cr, .slice ak nk ck, .bool true] 73) = W := ⟨_, rfl⟩
    have hb4 : Below w3.heap.size w3 W4 := by rw [← hW4]; exact (Below.refl _ _).alloc (Nat.le_refl _) _
    have hE4 := Lib.hid (show Blk W4 q5 73 #[.int .i64 k, .bool x, .bool y, .string nm, .slice aw nw cw, .slice ar nr cr, .slice ak nk ck, .bool true] by rw [← hW4, ← hq5]; exact Blk.new _ _ _)
    rw [hW4, hq5]
    have hHd4 := Lib.hid ((show Hd b w n k x y nm aw nw cw ar nr cr ak nk ck T w3 from ⟨hN3.out, fun g hg => ⟨Nat.le_trans hF1.out.size (hT3.out g hg).1, (hT3.out g hg).2⟩⟩).keep (Fb.of_below hb4) hlt)
    have hT4 := Lib.hid (show ¬ T q4 from fun e => by have := (hT3.out q4 e).1; have := hZ.out.lt; omega)
    have hT5 := Lib.hid (show ¬ T q5 from fun e => by have := (hT3.out q5 e).2; omega)
    have hA4 := Lib.hid (hA3H.out.below hb4)
    have hF4 := Lib.hid (hF3H.out.trans (Fb.of_below hb4))
    have hZ4 := Lib.hid ((Fb.of_below (b := b) hb4).blk hZ3.out hqb)
    have hX4 := Lib.hid ((Fb.of_below (b := b) hb4).blk hX3.out hq0)
    have hq5b : q5 ≠ b := by have := hF3H.out.size; omega
    have hq516 : 8 ≤ q5 := by have := hF3H.out.size; omega
    have hw5 : w.heap.size ≤ q5 := by have := hF3H.out.size; omega
    have hq54 : ¬ q5 = q4 := by have := hZ3.out.lt; omega
    have hq45 : ¬ q4 = q5 := fun e => hq54 e.symm
    have hq50 : q0 ≠ q5 := by have := hX3.out.lt; omega
    have hqw := Lib.hid (show w.heap.size ≤ q4 from Nat.le_of_eq hqH.out)
    have hpc := Lib.hid (hpk.out W4 hA4.out)
    have x0 : W4.cell? ⟨q0, 0, none⟩ = some (ptr b) := hX4.out.cell 0
    have p7 : W4.cell? ⟨q5, 7, none⟩ = some (.bool true) := hE4.out.cell 7
    have r7 := hE4.out.frozen 7
    clear hb4 hW4 hq5 hpk hN3 hT3 hA3H hF3H hZ3 hX3 hc
    have key : Hid (∀ (w5 : World) (v : Bool), PF b s w5 st1 → Fb b W4 w5 → Blk w5 q5 73 #[.int .i64 k, .bool x, .bool y, .string nm, .slice aw nw cw, .slice ar nr cr, .slice ak nk ck, .bool true] →
        PF b s (w5.setCell ⟨q5, 7, none⟩ (.bool v)) st1 ∧ Fb b w (w5.setCell ⟨q5, 7, none⟩ (.bool v)) ∧ Blk (w5.setCell ⟨q5, 7, none⟩ (.bool v)) q5 73 #[.int .i64 k, .bool x, .bool y, .string nm, .slice aw nw cw, .slice ar nr cr, .slice ak nk ck, .bool v] ∧ Blk (w5.setCell ⟨q5, 7, none⟩ (.bool v)) q4 73 N8 ∧ Blk (w5.setCell ⟨q5, 7, none⟩ (.bool v)) q0 53 #[ptr b] ∧ Hd b w n k x y nm aw nw cw ar nr cr ak nk ck T (w5.setCell ⟨q5, 7, none⟩ (.bool v))) := Lib.hid (fun w5 v hp hf hE => by
      refine ⟨hp.write hE (by decide) hq5b hq516, (hF4.out.trans hf).new_ hw5 _ _, hE.set_ 7 _, (hf.blk hZ4.out hqb).far hq45 _, (hf.blk hX4.out hq0).far hq50 _, ?_⟩
      have h9 := hHd4.out.keep hf hlt
      exact ⟨h9.at_.keep (fun g hg => Below.heap_setCell _ _ _ _ (fun e => hT5.out (by have e2 : g = q5 := e; rw [e2] at hg; exact hg))) (fun _ h => h), fun g hg => ⟨(h9.ge g hg).1, by rw [World.size_setCell]; exact (h9.ge g hg).2⟩⟩)
    go_upto_region 3 with fail
    obtain ⟨hA6, hF6, hE6, hZ6, hX6, hHd6⟩ := key.out W4 true hA4.out (Fb.refl _ _) hE4.out
    have hA6H := Lib.hid hA6
    have hF6H := Lib.hid hF6
    have hE6H := Lib.hid hE6
    have hZ6H := Lib.hid hZ6
    have hX6H := Lib.hid hX6
    have hHd6H := Lib.hid hHd6
    obtain ⟨W6, hW6⟩ : ∃ W, W4.setCell ⟨q5, 7, none⟩ (.bool true) = W := ⟨_, rfl⟩
    rw [hW6] at hA6H hF6H hE6H hZ6H hX6H hHd6H
    rw [hW6]
    clear hA6 hF6 hE6 hZ6 hX6 hHd6 hW6 key p7 r7 x0
    have x6 : W6.cell? ⟨q0, 0, none⟩ = some (ptr b) := hX6H.out.cell 0
    go_upto_region 4 with (go_at_call 19; refine (hnl.out _ hA6H.out).mono ?_; rintro e w7 ⟨rfl, hA7, hF7⟩; have hA7H := Lib.hid hA7; have hF7H := Lib.hid hF7; clear hA7 hF7)
    have hE7 := Lib.hid (hF7H.out.blk hE6H.out hq5b)
    have hZ7 := Lib.hid (hF7H.out.blk hZ6H.out hqb)
    have c0 : w7.cell? ⟨q5, 0, none⟩ = some (.int .i64 k) := hE7.out.cell 0
    have c1 : w7.cell? ⟨q5, 1, none⟩ = some (.bool x) := hE7.out.cell 1
    have c2 : w7.cell? ⟨q5, 2, none⟩ = some (.bool y) := hE7.out.cell 2
    have c3 : w7.cell? ⟨q5, 3, none⟩ = some (.string nm) := hE7.out.cell 3
    have c4 : w7.cell? ⟨q5, 4, none⟩ = some (.slice aw nw cw) := hE7.out.cell 4
    have c5 : w7.cell? ⟨q5, 5, none⟩ = some (.slice ar nr cr) := hE7.out.cell 5
    have c6 : w7.cell? ⟨q5, 6, none⟩ = some (.slice ak nk ck) := hE7.out.cell 6
    have c7 : w7.cell? ⟨q5, 7, none⟩ = some (.bool true) := hE7.out.cell 7
    have z0 : w7.cell? ⟨q4, 0, none⟩ = some (.int .i64 0) := hZ7.out.cell 0
    have z1 : w7.cell? ⟨q4, 1, none⟩ = some (.bool false) := hZ7.out.cell 1
    have z2 : w7.cell? ⟨q4, 2, none⟩ = some (.bool false) := hZ7.out.cell 2
    have z3 : w7.cell? ⟨q4, 3, none⟩ = some (.string ⟨#[]⟩) := hZ7.out.cell 3
    have z4 : w7.cell? ⟨q4, 4, none⟩ = some (.slice none 0 0) := hZ7.out.cell 4
    have z5 : w7.cell? ⟨q4, 5, none⟩ = some (.slice none 0 0) := hZ7.out.cell 5
    have z6 : w7.cell? ⟨q4, 6, none⟩ = some (.slice none 0 0) := hZ7.out.cell 6
    have z7 : w7.cell? ⟨q4, 7, none⟩ = some (.bool false) := hZ7.out.cell 7
    have g0 := hZ7.out.frozen 0
    have g1 := hZ7.out.frozen 1
    have g2 := hZ7.out.frozen 2
    have g3 := hZ7.out.frozen 3
    have g4 := hZ7.out.frozen 4
    have g5 := hZ7.out.frozen 5
    have g6 := hZ7.out.frozen 6
    have g7 := hZ7.out.frozen 7
    go_wp2_with fail
    refine bodyPost_ret (results_cell_row rfl _ _ q4 73 #[.int .i64 k, .bool x, .bool y, .string nm, .slice aw nw cw, .slice ar nr cr, .slice ak nk ck, .bool true] (0, 0) _ rfl (put8_blk hZ7.out _ _ _ _ _ _ _ _) Tryz.underlying73 rfl (by kernel_rfl)) rfl ?_
    exact (hHd6H.out.keep hF7H.out hlt).en hZ7.out hT4.out hqw.out hqb hq16 hA7H.out (hF6H.out.trans hF7H.out)

end
end Go.Proofs.YtnhbcmhinhncfaaGreatDoor
