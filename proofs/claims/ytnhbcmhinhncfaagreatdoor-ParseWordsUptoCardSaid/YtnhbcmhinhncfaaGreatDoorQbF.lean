/- A compound command. Conditions: the parser lies as stated; a body's contract is handed in. -/
import Derived.Test.YtnhbcmhinhncfaaGreatDoorQbE
namespace Go.Proofs.YtnhbcmhinhncfaaGreatDoor
open Go.RowKit Go.Shelf Go.PlainAid
set_option linter.unusedVariables false
set_option linter.unusedSimpArgs false
attribute [local go_sem] Oper.semAt_some
theorem NdAt.redirs {w : World} {T T2 : Nat → Prop} {k : Int} {x y : Bool} {nm : ByteArray} {aw : Option Addr} {nw cw : Nat} {ar : Option Addr} {nr cr : Nat} {ak : Option Addr} {nk ck : Nat} {n : Nd} {a : Option Addr} {c : Nat} {l : List Rd} (h : NdAt w T [.int .i64 k, .bool x, .bool y, .string nm, .slice aw nw cw, .slice ar nr cr, .slice ak nk ck] n) (hd : Done ElR 50 w T2 (.slice a l.length c) l) :
    NdAt w (fun g => T g ∨ T2 g) [.int .i64 k, .bool x, .bool y, .string nm, .slice aw nw cw, .slice a l.length c, .slice ak nk ck] (n.withRedirs l) := by
  cases h with
  | mk K hw hr hrow hown hk =>
    exact .mk K (hw.keep (fun _ _ => rfl) (fun _ => .inl)) (hd.keep (fun _ _ => rfl) (fun _ => .inr)) hrow (fun g hg => .inl (hown g hg)) (fun i n hi => (hk i n hi).keep (fun _ _ => rfl) (fun _ => .inl))
section
variable {b q4 q5 : Nat} {s : ByteArray} {w : World} {st : PS} {B : Int → PS → Nd × PS} {d : Int}
/-- A tree stands in the command's own block. -/
def CoR (b q4 q5 : Nat) (s : ByteArray) (w : World) (n : Nd) (st : PS) (W : World) : Prop :=
  ∃ (k : Int) (x y : Bool) (nm : ByteArray) (aw : Option Addr) (nw cw : Nat) (ar : Option Addr) (nr cr : Nat) (ak : Option Addr) (nk ck : Nat) (T : Nat → Prop), PF b s W st ∧ Fb b w W ∧ Blk W q4 30 N7 ∧ Blk W q5 30 #[.int .i64 k, .bool x, .bool y, .string nm, .slice aw nw cw, .slice ar nr cr, .slice ak nk ck] ∧ Hd b w n k x y nm aw nw cw ar nr cr ak nk ck T W ∧ ¬ T q4 ∧ ¬ T q5
theorem CoR.of {n : Nd} {W : World} {v1 v2 v3 v4 v5 v6 v7 : Value} {k : Int} {x y : Bool} {nm : ByteArray} {aw : Option Addr} {nw cw : Nat} {ar : Option Addr} {nr cr : Nat} {ak : Option Addr} {nk ck : Nat} {T : Nat → Prop} (h : Hd b w n k x y nm aw nw cw ar nr cr ak nk ck T W) (hp : PF b s W st) (hf : Fb b w W) (hz : Blk W q4 30 N7) (hB : Blk W q5 30 #[v1, v2, v3, v4, v5, v6, v7]) (n4 : ¬ T q4) (n5 : ¬ T q5) (h45 : q4 ≠ q5) (hqw : w.heap.size ≤ q5) (hqb : q5 ≠ b) (h16 : 8 ≤ q5) :
    CoR b q4 q5 s w n st (put7 W q5 (.int .i64 k) (.bool x) (.bool y) (.string nm) (.slice aw nw cw) (.slice ar nr cr) (.slice ak nk ck)) :=
  ⟨k, x, y, nm, aw, nw, cw, ar, nr, cr, ak, nk, ck, T, hp.put7 hB (by decide) hqb h16 _ _ _ _ _ _ _, put7_fb hf hqw _ _ _ _ _ _ _, (put7_far _ _ _ _ _ _ _ _ _ h45).trans hz, put7_blk hB _ _ _ _ _ _ _, h.put7 n5 _ _ _ _ _ _ _, n4, n5⟩
/-- A tree of one kid. -/
theorem CoR.kid {n : Nd} {W : World} {v1 v2 v3 v4 v5 v6 v7 : Value} {k : Int} {x y : Bool} {nm : ByteArray} {aw : Option Addr} {nw cw : Nat} {ar : Option Addr} {nr cr : Nat} {ak : Option Addr} {nk ck : Nat} {T : Nat → Prop} (kd : Int) (h : Hd b w n k x y nm aw nw cw ar nr cr ak nk ck T W) (hp : PF b s W st) (hf : Fb b w W) (hz : Blk W q4 30 N7) (hB : Blk W q5 30 #[v1, v2, v3, v4, v5, v6, v7]) (n4 : ¬ T q4) (n5 : ¬ T q5) (h45 : q4 ≠ q5) (hqw : w.heap.size ≤ q5) (hqb : q5 ≠ b) (h16 : 8 ≤ q5) :
    CoR b q4 q5 s w (ndK kd [n]) st ((put7 W q5 (.int .i64 kd) (.bool false) (.bool false) (.string ⟨#[]⟩) (.slice none 0 0) (.slice none 0 0) (.slice (some ⟨W.heap.size, 0, none⟩) 1 1)).alloc (.cells #[.int .i64 k, .bool x, .bool y, .string nm, .slice aw nw cw, .slice ar nr cr, .slice ak nk ck] 30)) := by
  have hp8 := hp.put7 hB (by decide) hqb h16 (.int .i64 kd) (.bool false) (.bool false) (.string ⟨#[]⟩) (.slice none 0 0) (.slice none 0 0) (.slice (some ⟨W.heap.size, 0, none⟩) 1 1)
  have hf8 := put7_fb hf hqw (.int .i64 kd) (.bool false) (.bool false) (.string ⟨#[]⟩) (.slice none 0 0) (.slice none 0 0) (.slice (some ⟨W.heap.size, 0, none⟩) 1 1)
  have hB8 := put7_blk hB (.int .i64 kd) (.bool false) (.bool false) (.string ⟨#[]⟩) (.slice none 0 0) (.slice none 0 0) (.slice (some ⟨W.heap.size, 0, none⟩) 1 1)
  have hk8 : ∀ g, g ≠ q5 → (put7 W q5 (.int .i64 kd) (.bool false) (.bool false) (.string ⟨#[]⟩) (.slice none 0 0) (.slice none 0 0) (.slice (some ⟨W.heap.size, 0, none⟩) 1 1)).heap[g]? = W.heap[g]? := fun g hg => put7_far _ _ _ _ _ _ _ _ _ hg
  have hs8 : (put7 W q5 (.int .i64 kd) (.bool false) (.bool false) (.string ⟨#[]⟩) (.slice none 0 0) (.slice none 0 0) (.slice (some ⟨W.heap.size, 0, none⟩) 1 1)).heap.size = W.heap.size := put7_size _ _ _ _ _ _ _ _ _
  obtain ⟨W8, hW8⟩ : ∃ X, put7 W q5 (.int .i64 kd) (.bool false) (.bool false) (.string ⟨#[]⟩) (.slice none 0 0) (.slice none 0 0) (.slice (some ⟨W.heap.size, 0, none⟩) 1 1) = X := ⟨_, rfl⟩
  rw [hW8] at hp8 hf8 hB8 hk8 hs8 ⊢
  have hb : Below W8.heap.size W8 (W8.alloc (.cells #[.int .i64 k, .bool x, .bool y, .string nm, .slice aw nw cw, .slice ar nr cr, .slice ak nk ck] 30)) := (Below.refl _ _).alloc (Nat.le_refl _) _
  have hBn : Blk (W8.alloc (.cells #[.int .i64 k, .bool x, .bool y, .string nm, .slice aw nw cw, .slice ar nr cr, .slice ak nk ck] 30)) W.heap.size 30 #[.int .i64 k, .bool x, .bool y, .string nm, .slice aw nw cw, .slice ar nr cr, .slice ak nk ck] := by rw [← hs8]; exact Blk.new _ _ _
  have hs9 : (W8.alloc (.cells #[.int .i64 k, .bool x, .bool y, .string nm, .slice aw nw cw, .slice ar nr cr, .slice ak nk ck] 30)).heap.size = W.heap.size + 1 := by rw [World.size_alloc, hs8]
  have hkk : ∀ g, g < W.heap.size → g ≠ q5 → (W8.alloc (.cells #[.int .i64 k, .bool x, .bool y, .string nm, .slice aw nw cw, .slice ar nr cr, .slice ak nk ck] 30)).heap[g]? = W.heap[g]? := fun g h1 h2 => (hb.block g (by omega)).trans (hk8 g h2)
  have h4l := hz.lt
  have h5l := hB.lt
  have hN1 : NdAt (W8.alloc (.cells #[.int .i64 k, .bool x, .bool y, .string nm, .slice aw nw cw, .slice ar nr cr, .slice ak nk ck] 30)) (fun g => T g ∨ g = W.heap.size) [.int .i64 k, .bool x, .bool y, .string nm, .slice aw nw cw, .slice ar nr cr, .slice ak nk ck] n := h.at_.keep (fun g hg => hkk g (h.ge g hg).2 (fun e => n5 (e ▸ hg))) (fun _ => .inl)
  refine ⟨kd, false, false, ⟨#[]⟩, none, 0, 0, none, 0, 0, some ⟨W.heap.size, 0, none⟩, 1, 1, fun g => T g ∨ g = W.heap.size, hp8.below hb, hf8.trans (Fb.of_below hb), (hkk q4 h4l h45).trans hz, hB8.alloc _, ⟨NdAt.of (ws := []) (rs := []) (kids := [n]) (Done.nil _ _ _ _) (Done.nil _ _ _ _) (kids1 hBn hN1 (.inr rfl)), fun g hg => ?_⟩, fun e => ?_, fun e => ?_⟩
  · rw [hs9]
    rcases hg with hg | hg
    · have := h.ge g hg; omega
    · have := hf.size; omega
  · rcases e with e | e
    · exact n4 e
    · omega
  · rcases e with e | e
    · exact n5 e
    · omega
theorem CoR.keep {n : Nd} {st' : PS} {W W' : World} (h : CoR b q4 q5 s w n st W) (hf : Fb b W W') (hp : PF b s W' st') (hb : b < w.heap.size) (hq4 : q4 ≠ b) (hq5 : q5 ≠ b) : CoR b q4 q5 s w n st' W' := by
  obtain ⟨k, x, y, nm, aw, nw, cw, ar, nr, cr, ak, nk, ck, T, h1, h2, h3, h4, h5, h6, h7⟩ := h
  exact ⟨k, x, y, nm, aw, nw, cw, ar, nr, cr, ak, nk, ck, T, hp, h2.trans hf, hf.blk h3 hq4, hf.blk h4 hq5, h5.keep hf hb, h6, h7⟩
/-- The redirections are stored. -/
theorem CoR.fin {n : Nd} {st' : PS} {W W' : World} {l : List Rd} {a : Option Addr} {c : Nat} {T2 : Nat → Prop} (h : CoR b q4 q5 s w n st W) (hD : Done ElR 50 W' T2 (.slice a l.length c) l) (hT : ∀ g, T2 g → W.heap.size ≤ g ∧ g < W'.heap.size) (hf : Fb b W W') (hp : PF b s W' st') (hb : b < w.heap.size) (hq4 : q4 ≠ b) (hq5 : q5 ≠ b) (h45 : q4 ≠ q5) (hqw : w.heap.size ≤ q5) (h16 : 8 ≤ q5) :
    ∃ (k : Int) (x y : Bool) (nm : ByteArray) (aw : Option Addr) (nw cw : Nat) (ak : Option Addr) (nk ck : Nat) (T : Nat → Prop) (ar : Option Addr) (nr cr : Nat), Blk W' q5 30 #[.int .i64 k, .bool x, .bool y, .string nm, .slice aw nw cw, .slice ar nr cr, .slice ak nk ck] ∧ PF b s (W'.setCell ⟨q5, 5, none⟩ (.slice a l.length c)) st' ∧ Fb b w (W'.setCell ⟨q5, 5, none⟩ (.slice a l.length c)) ∧ Blk (W'.setCell ⟨q5, 5, none⟩ (.slice a l.length c)) q4 30 N7 ∧
      Blk (W'.setCell ⟨q5, 5, none⟩ (.slice a l.length c)) q5 30 #[.int .i64 k, .bool x, .bool y, .string nm, .slice aw nw cw, .slice a l.length c, .slice ak nk ck] ∧ Hd b w (n.withRedirs l) k x y nm aw nw cw a l.length c ak nk ck T (W'.setCell ⟨q5, 5, none⟩ (.slice a l.length c)) ∧ ¬ T q4 := by
  obtain ⟨k, x, y, nm, aw, nw, cw, ar, nr, cr, ak, nk, ck, T, h1, h2, h3, h4, h5, h6, h7⟩ := h
  have hB := hf.blk h4 hq5
  have h4l := h3.lt
  have h5l := h4.lt
  have h9 := h5.keep hf hb
  have hwz := h2.size
  have hTg : ∀ g, (T g ∨ T2 g) → w.heap.size ≤ g ∧ g < W'.heap.size ∧ g ≠ q5 ∧ g ≠ q4 := fun g hg => hg.elim (fun e => ⟨(h9.ge g e).1, (h9.ge g e).2, fun e2 => h7 (e2 ▸ e), fun e2 => h6 (e2 ▸ e)⟩) (fun e => by have := hT g e; exact ⟨by omega, by omega, by omega, by omega⟩)
  refine ⟨k, x, y, nm, aw, nw, cw, ak, nk, ck, fun g => T g ∨ T2 g, ar, nr, cr, hB, hp.write hB (by decide) hq5 h16, (h2.trans hf).new_ hqw _ _, (hf.blk h3 hq4).far h45 _, hB.set_ 5 _, ⟨(h9.at_.redirs hD).keep (fun g hg => Below.heap_setCell _ _ _ _ (hTg g hg).2.2.1) (fun _ h => h), fun g hg => ⟨(hTg g hg).1, by rw [World.size_setCell]; exact (hTg g hg).2.1⟩⟩, fun e => (hTg _ e).2.2.2 rfl⟩
/-- What a compound command makes before its redirections: in parentheses, and otherwise. -/
def comp1 (s : ByteArray) (B : Int → PS → Nd × PS) (d : Int) (st : PS) : Nd × PS :=
  if hasW s [123] st then (let b := B (d + 1) (nextP s st); (ndK 8 [b.1], needP s (hasW s [125] b.2) b.2))
  else if hasW s [105, 102] st then chP s B (d + 1) (nextP s st)
  else if hasW s [119, 104, 105, 108, 101] st || hasW s [117, 110, 116, 105, 108] st then loopP s B (peekP s st).text (d + 1) (nextP s st)
  else if hasW s [102, 111, 114] st then forP s B (d + 1) (nextP s st)
  else if hasW s [99, 97, 115, 101] st then caseP s B (d + 1) (nextP s st)
  else (nd0, needP s false st)
theorem comp_is (B : Int → PS → Nd × PS) (d : Int) (st : PS) : compP s B d st = withR s (if hasO s [40] st then (let b := B (d + 1) (nextP s st); (ndK 7 [b.1], needP s (hasO s [41] b.2) b.2)) else comp1 s B d st) := by
  unfold compP comp1
  dsimp only
  repeat' split
  all_goals rfl
theorem kind_rem (h : PW s st) (hr : rem s st = 0) : (peekP s st).kind = 0 := by
  rcases Int.decEq (peekP s st).kind 0 with hk | hk
  · have := rem_taken h hk
    omega
  · exact hk
theorem hasO_rem (h : PW s st) (hr : 24 < d → rem s st = 0) {t : List UInt8} (ho : hasO s t st = true) : d ≤ 24 := by
  rcases Int.lt_or_le 24 d with hd | hd
  · have h1 := kind_rem h (hr hd)
    rw [isT_kind (show isT 2 t (peekP s st) = true from ho)] at h1
    cases h1
  · exact hd
theorem hasW_rem (h : PW s st) (hr : 24 < d → rem s st = 0) {t : List UInt8} (ho : hasW s t st = true) : d ≤ 24 := by
  rcases Int.lt_or_le 24 d with hd | hd
  · have h1 := kind_rem h (hr hd)
    rw [isT_kind (show isT 1 t (peekP s st) = true from ho)] at h1
    cases h1
  · exact hd
end
end Go.Proofs.YtnhbcmhinhncfaaGreatDoor
/- A compound command: its walk. Conditions: the parser lies as stated; a body's contract is handed in. -/
namespace Go.Proofs.YtnhbcmhinhncfaaGreatDoor
open Go.RowKit Go.Shelf Go.PlainAid
set_option linter.unusedVariables false
set_option linter.unusedSimpArgs false
attribute [local go_sem] Oper.semAt_some
section
variable {b q4 q5 : Nat} {s : ByteArray} {w : World} {st : PS}
theorem CoR.call {n : Nd} {W W' : World} {k : Int} {x y : Bool} {nm : ByteArray} {aw : Option Addr} {nw cw : Nat} {ar : Option Addr} {nr cr : Nat} {ak : Option Addr} {nk ck : Nat} {T : Nat → Prop} (hN : NdAt W' T [.int .i64 k, .bool x, .bool y, .string nm, .slice aw nw cw, .slice ar nr cr, .slice ak nk ck] n) (hT : ∀ g, T g → W.heap.size ≤ g ∧ g < W'.heap.size) (hp : PF b s W' st) (hf : Fb b W W') (hw : Fb b w W) (hz : Blk W q4 30 N7) (hB : Blk W q5 30 N7) (h45 : q4 ≠ q5) (hqw : w.heap.size ≤ q5) (hq4 : q4 ≠ b) (hqb : q5 ≠ b) (h16 : 8 ≤ q5) :
    CoR b q4 q5 s w n st (put7 W' q5 (.int .i64 k) (.bool x) (.bool y) (.string nm) (.slice aw nw cw) (.slice ar nr cr) (.slice ak nk ck)) := by
  have h1 := hz.lt
  have h2 := hB.lt
  have h3 := hw.size
  exact CoR.of ⟨hN, fun g hg => ⟨Nat.le_trans h3 (hT g hg).1, (hT g hg).2⟩⟩ hp (hw.trans hf) (hf.blk hz hq4) (hf.blk hB hqb) (fun e => by have := (hT _ e).1; omega) (fun e => by have := (hT _ e).1; omega) h45 hqw hqb h16
theorem CoR.callk {n : Nd} {W W' : World} {k : Int} {x y : Bool} {nm : ByteArray} {aw : Option Addr} {nw cw : Nat} {ar : Option Addr} {nr cr : Nat} {ak : Option Addr} {nk ck : Nat} {T : Nat → Prop} (kd : Int) (hN : NdAt W' T [.int .i64 k, .bool x, .bool y, .string nm, .slice aw nw cw, .slice ar nr cr, .slice ak nk ck] n) (hT : ∀ g, T g → W.heap.size ≤ g ∧ g < W'.heap.size) (hp : PF b s W' st) (hf : Fb b W W') (hw : Fb b w W) (hz : Blk W q4 30 N7) (hB : Blk W q5 30 N7) (h45 : q4 ≠ q5) (hqw : w.heap.size ≤ q5) (hq4 : q4 ≠ b) (hqb : q5 ≠ b) (h16 : 8 ≤ q5) :
    CoR b q4 q5 s w (ndK kd [n]) st ((put7 W' q5 (.int .i64 kd) (.bool false) (.bool false) (.string ⟨#[]⟩) (.slice none 0 0) (.slice none 0 0) (.slice (some ⟨W'.heap.size, 0, none⟩) 1 1)).alloc (.cells #[.int .i64 k, .bool x, .bool y, .string nm, .slice aw nw cw, .slice ar nr cr, .slice ak nk ck] 30)) := by
  have h1 := hz.lt
  have h2 := hB.lt
  have h3 := hw.size
  exact CoR.kid kd ⟨hN, fun g hg => ⟨Nat.le_trans h3 (hT g hg).1, (hT g hg).2⟩⟩ hp (hw.trans hf) (hf.blk hz hq4) (hf.blk hB hqb) (fun e => by have := (hT _ e).1; omega) (fun e => by have := (hT _ e).1; omega) h45 hqw hqb h16
theorem CoR.pf {n : Nd} {W : World} (h : CoR b q4 q5 s w n st W) : PF b s W st := by obtain ⟨_, _, _, _, _, _, _, _, _, _, _, _, _, _, h9, _⟩ := h; exact h9
theorem CoR.nil {W : World} (hp : PF b s W st) (hw : Fb b w W) (hz : Blk W q4 30 N7) (hB : Blk W q5 30 N7) : CoR b q4 q5 s w nd0 st W :=
  ⟨0, false, false, ⟨#[]⟩, none, 0, 0, none, 0, 0, none, 0, 0, fun _ => False, hp, hw, hz, hB, ⟨NdAt.of (ws := []) (rs := []) (kids := []) (Done.nil _ _ _ _) (Done.nil _ _ _ _) (Done.nil _ _ _ _), fun g hg => hg.elim⟩, id, id⟩
end
section
variable {b : Nat} {s : ByteArray} {w : World} {st : PS} {B : Int → PS → Nd × PS} {d : Int}
set_option maxRecDepth 100000 in
set_option maxHeartbeats 8000000 in
theorem compound_f (hd0 : 0 ≤ d) (hd1 : d ≤ 25) (hB : ∀ (d : Int) (st : PS), PW s st → Lo s st (B d st).2) (hC : d ≤ 24 → BodyC s B (d + 1)) (hj : 24 < d → rem s st = 0) (h : PF b s w st) : Calls Tryz.prog 90 #[ptr b, .int .i64 d] w (NdAn b s w (compP s B d st).1 (compP s B d st).2) := by
  obtain ⟨q4, hq4⟩ : ∃ x, w.heap.size = x := ⟨_, rfl⟩
  obtain ⟨q5, hq5⟩ : ∃ x, w.heap.size + 1 = x := ⟨_, rfl⟩
  have hlt := h.lt
  have h16 := h.b16
  have hqb2 : q4 ≠ b := by omega
  have hqb5 : q5 ≠ b := by omega
  have hq16 : 8 ≤ q4 := by omega
  have hq516 : 8 ≤ q5 := by omega
  have hq45 : ¬ q4 = q5 := by omega
  have hqw5 : w.heap.size ≤ q5 := by omega
  obtain ⟨W, hW⟩ : ∃ W, w.alloc (.cells N7 30) = W := ⟨_, rfl⟩
  have e5 : W.heap.size = q5 := by rw [← hW, World.size_alloc, hq5]
  obtain ⟨W1, hW1⟩ : ∃ W1, W.alloc (.cells N7 30) = W1 := ⟨_, rfl⟩
  have hb1 : Below w.heap.size w W1 := by rw [← hW1, ← hW]; exact ((Below.refl _ _).alloc (Nat.le_refl _) _).alloc (by rw [World.size_alloc]; omega) _
  have hZ := Lib.hid (show Blk W1 q4 30 N7 by rw [← hW1, ← hW, ← hq4]; exact (Blk.new _ _ _).alloc _)
  have hB5 := Lib.hid (show Blk W1 q5 30 N7 by rw [← hW1, ← e5]; exact Blk.new _ _ _)
  have hA1 := Lib.hid (h.below hb1)
  have hF1 := Lib.hid (Fb.of_below (b := b) hb1)
  have hWH := Lib.hid hW
  have hW1H := Lib.hid hW1
  have hq4H := Lib.hid hq4
  have e5H := Lib.hid e5
  have hok := Lib.hid h.ok
  have hjH := Lib.hid hj
  have hBH := Lib.hid hB
  have hCH := Lib.hid hC
  have hto := took_f hA1.out ⟨#[40]⟩
  rw [show (⟨#[40]⟩ : ByteArray).toList = [40] by kernel_rfl] at hto
  have hcm := comp_is (s := s) B d st
  obtain ⟨C0, hC0⟩ : ∃ C, (if hasO s [40] st then (let b := B (d + 1) (nextP s st); (ndK 7 [b.1], needP s (hasO s [41] b.2) b.2)) else comp1 s B d st) = C := ⟨_, rfl⟩
  rw [hC0] at hcm
  obtain ⟨nC, sC⟩ := C0
  have hrd := Lib.hid (fun W (hp : PF b s W sC) => redirections_f hp)
  have hr := Lib.hid (show compP s B d st = (nC.withRedirs (redsP s sC).1, (redsP s sC).2) from hcm)
  obtain ⟨RD, hRD⟩ : ∃ R, redsP s sC = R := ⟨_, rfl⟩
  rw [hRD] at hrd hr
  obtain ⟨rs, st9⟩ := RD
  dsimp only at hrd hr
  rw [hr.out]
  obtain ⟨o, ho⟩ : ∃ o, hasO s [40] st = o := ⟨_, rfl⟩
  have hdo : o = true → d ≤ 24 := fun e => hasO_rem h.ok hj (ho.trans e)
  rw [ho] at hto hC0
  have htoH := Lib.hid hto
  have hC0H := Lib.hid hC0
  clear hW hW1 hb1 h hq4 hq5 e5 hr hcm hRD hto hC0 hj hB hC ho
  go_enter Tryz.func90, Tryz.ntmps90
  go_upto_region 1 with fail
  rw [hWH.out, hq4H.out]
  go_upto_region 2 with fail
  rw [hW1H.out, e5H.out]
  cases o
  · have hC1 := Lib.hid (show comp1 s B d st = (nC, sC) from hC0H.out)
    clear hC0H hdo
    go_upto_region 7 with (go_at_call 45; refine htoH.out.mono ?_; rintro e w2 ⟨rfl, hA2, hF2⟩; have hA2H := Lib.hid (show PF b s w2 st from hA2); have hF2H := Lib.hid hF2; clear hA2 hF2)
    have hpk := Lib.hid (peek_f hA2H.out)
    obtain ⟨t, ht⟩ : ∃ t, peekP s st = t := ⟨_, rfl⟩
    rw [ht] at hpk
    have htH := Lib.hid ht
    clear ht htoH
    go_upto_block 0 with (go_at_call 20; refine hpk.out.mono ?_; rintro e w3 ⟨rfl, hA3, hF3⟩; have hA3H := Lib.hid hA3; have hF3H := Lib.hid hF3; clear hA3 hF3)
    obtain ⟨f1, hf1⟩ : ∃ f, hasW s [123] st = f := ⟨_, rfl⟩
    have tf1 := Lib.hid (fun W (hp : PF b s W st) => tookWord_f hp ⟨#[123]⟩)
    rw [show (⟨#[123]⟩ : ByteArray).toList = [123] by kernel_rfl, hf1] at tf1
    have df1 := Lib.hid (fun e : f1 = true => hasW_rem hok.out hjH.out (hf1.trans e))
    obtain ⟨f2, hf2⟩ : ∃ f, hasW s [105, 102] st = f := ⟨_, rfl⟩
    have tf2 := Lib.hid (fun W (hp : PF b s W st) => tookWord_f hp ⟨#[105, 102]⟩)
    rw [show (⟨#[105, 102]⟩ : ByteArray).toList = [105, 102] by kernel_rfl, hf2] at tf2
    have df2 := Lib.hid (fun e : f2 = true => hasW_rem hok.out hjH.out (hf2.trans e))
    obtain ⟨f3, hf3⟩ : ∃ f, hasW s [119, 104, 105, 108, 101] st = f := ⟨_, rfl⟩
    have tf3 := Lib.hid (fun W (hp : PF b s W st) => tookWord_f hp ⟨#[119, 104, 105, 108, 101]⟩)
    rw [show (⟨#[119, 104, 105, 108, 101]⟩ : ByteArray).toList = [119, 104, 105, 108, 101] by kernel_rfl, hf3] at tf3
    have df3 := Lib.hid (fun e : f3 = true => hasW_rem hok.out hjH.out (hf3.trans e))
    obtain ⟨f4, hf4⟩ : ∃ f, hasW s [117, 110, 116, 105, 108] st = f := ⟨_, rfl⟩
    have tf4 := Lib.hid (fun W (hp : PF b s W st) => tookWord_f hp ⟨#[117, 110, 116, 105, 108]⟩)
    rw [show (⟨#[117, 110, 116, 105, 108]⟩ : ByteArray).toList = [117, 110, 116, 105, 108] by kernel_rfl, hf4] at tf4
    have df4 := Lib.hid (fun e : f4 = true => hasW_rem hok.out hjH.out (hf4.trans e))
    obtain ⟨f5, hf5⟩ : ∃ f, hasW s [102, 111, 114] st = f := ⟨_, rfl⟩
    have tf5 := Lib.hid (fun W (hp : PF b s W st) => tookWord_f hp ⟨#[102, 111, 114]⟩)
    rw [show (⟨#[102, 111, 114]⟩ : ByteArray).toList = [102, 111, 114] by kernel_rfl, hf5] at tf5
    have df5 := Lib.hid (fun e : f5 = true => hasW_rem hok.out hjH.out (hf5.trans e))
    obtain ⟨f6, hf6⟩ : ∃ f, hasW s [99, 97, 115, 101] st = f := ⟨_, rfl⟩
    have tf6 := Lib.hid (fun W (hp : PF b s W st) => tookWord_f hp ⟨#[99, 97, 115, 101]⟩)
    rw [show (⟨#[99, 97, 115, 101]⟩ : ByteArray).toList = [99, 97, 115, 101] by kernel_rfl, hf6] at tf6
    have df6 := Lib.hid (fun e : f6 = true => hasW_rem hok.out hjH.out (hf6.trans e))
    have hC2 := hC1.out
    unfold comp1 at hC2
    rw [hf1, hf2, hf3, hf4, hf5, hf6, htH.out] at hC2
    clear hf1 hf2 hf3 hf4 hf5 hf6 hC1
    obtain ⟨q6, hq6⟩ : ∃ q, w3.heap.size = q := ⟨_, rfl⟩
    obtain ⟨W3, hW3⟩ : ∃ W, w3.alloc (.cells (tkC t) 58) = W := ⟨_, rfl⟩
    have hb3 : Below w3.heap.size w3 W3 := by rw [← hW3]; exact (Below.refl _ _).alloc (Nat.le_refl _) _
    have hk0 := Lib.hid (show Blk W3 q6 58 (tkC t) by rw [← hW3, ← hq6]; exact Blk.new _ _ _)
    have hp0 := Lib.hid (hA3H.out.below hb3)
    have hf0 := Lib.hid (hF2H.out.trans (hF3H.out.trans (Fb.of_below hb3)))
    have hw0 := Lib.hid (hF1.out.trans hf0.out)
    have hz0 := Lib.hid (hf0.out.blk hZ.out hqb2)
    have hb0 := Lib.hid (hf0.out.blk hB5.out hqb5)
    have hq6b : q6 ≠ b := by have := (hF1.out.trans (hF2H.out.trans hF3H.out)).size; omega
    rw [hW3, hq6]
    clear hW3 hb3 hq6 hpk hA3H hF3H hA2H hF2H hZ hB5 hA1 hF1 hf0
    go_cut [] (fun wx => Hid (CoR b q4 q5 s w nC sC wx))
    case first =>
      cases f1
      · go_upto_region 12 with (go_at_call 100; refine (tf1.out _ hp0.out).mono ?_; rintro e v1 ⟨rfl, hA, hF⟩; have hp1 := Lib.hid (show PF b s v1 st from hA); have hw1 := Lib.hid (hw0.out.trans hF); have hz1 := Lib.hid (hF.blk hz0.out hqb2); have hb1 := Lib.hid (hF.blk hb0.out hqb5); have hk1 := Lib.hid (hF.blk hk0.out hq6b); clear hA hF)
        cases f2
        · go_upto_region 14 with (go_at_call 100; refine (tf2.out _ hp1.out).mono ?_; rintro e v2 ⟨rfl, hA, hF⟩; have hp2 := Lib.hid (show PF b s v2 st from hA); have hw2 := Lib.hid (hw1.out.trans hF); have hz2 := Lib.hid (hF.blk hz1.out hqb2); have hb2 := Lib.hid (hF.blk hb1.out hqb5); have hk2 := Lib.hid (hF.blk hk1.out hq6b); clear hA hF)
          cases f3
          · go_upto_region 15 with (go_at_call 100; refine (tf3.out _ hp2.out).mono ?_; rintro e v3 ⟨rfl, hA, hF⟩; have hp3 := Lib.hid (show PF b s v3 st from hA); have hw3 := Lib.hid (hw2.out.trans hF); have hz3 := Lib.hid (hF.blk hz2.out hqb2); have hb3 := Lib.hid (hF.blk hb2.out hqb5); have hk3 := Lib.hid (hF.blk hk2.out hq6b); clear hA hF)
            cases f4
            · go_upto_region 17 with (go_at_call 100; refine (tf4.out _ hp3.out).mono ?_; rintro e v4 ⟨rfl, hA, hF⟩; have hp4 := Lib.hid (show PF b s v4 st from hA); have hw4 := Lib.hid (hw3.out.trans hF); have hz4 := Lib.hid (hF.blk hz3.out hqb2); have hb4 := Lib.hid (hF.blk hb3.out hqb5); have hk4 := Lib.hid (hF.blk hk3.out hq6b); clear hA hF)
              cases f5
              · go_upto_region 19 with (go_at_call 100; refine (tf5.out _ hp4.out).mono ?_; rintro e v5 ⟨rfl, hA, hF⟩; have hp5 := Lib.hid (show PF b s v5 st from hA); have hw5 := Lib.hid (hw4.out.trans hF); have hz5 := Lib.hid (hF.blk hz4.out hqb2); have hb5 := Lib.hid (hF.blk hb4.out hqb5); have hk5 := Lib.hid (hF.blk hk4.out hq6b); clear hA hF)
                cases f6
                · go_upto_region 8 with (go_at_call 100; refine (tf6.out _ hp5.out).mono ?_; rintro e v6 ⟨rfl, hA, hF⟩; have hp6 := Lib.hid (show PF b s v6 st from hA); have hw6 := Lib.hid (hw5.out.trans hF); have hz6 := Lib.hid (hF.blk hz5.out hqb2); have hb6 := Lib.hid (hF.blk hb5.out hqb5); have hk6 := Lib.hid (hF.blk hk5.out hq6b); clear hA hF)
                  have hcx := Lib.hid (need_f hp6.out false)
                  obtain ⟨rfl, rfl⟩ : nd0 = nC ∧ needP s false st = sC := by simpa using hC2
                  go_wp2_with (go_at_call 22; refine hcx.out.mono ?_; rintro e v9 ⟨rfl, hA, hF⟩; have hA9 := Lib.hid hA; have hF9 := Lib.hid hF; clear hA hF)
                  go_meet
                  case rel => exact Lib.hid (CoR.nil hA9.out (hw6.out.trans hF9.out) (hF9.out.blk hz6.out hqb2) (hF9.out.blk hb6.out hqb5))
                · have hd24 : d ≤ 24 := df6.out rfl
                  have hcx := Lib.hid (fun W (hp : PF b s W (nextP s st)) => cases_f (B := B) hBH.out (hCH.out hd24) hp)
                  rw [show caseP s B (d + 1) (nextP s st) = (nC, sC) from hC2] at hcx
                  go_wp2_with (first
                    | (go_at_call 100; refine (tf6.out _ hp5.out).mono ?_; rintro e v6 ⟨rfl, hA, hF⟩; have hp6 := Lib.hid (hcx.out v6 (show PF b s v6 (nextP s st) from hA)); have hw6 := Lib.hid (hw5.out.trans hF); have hz6 := Lib.hid (hF.blk hz5.out hqb2); have hb6 := Lib.hid (hF.blk hb5.out hqb5); have hk6 := Lib.hid (hF.blk hk5.out hq6b); have tk1 := hk6.out.cell 1; clear hA hF)
                    | (go_at_call 105; refine hp6.out.mono ?_; rintro e v9 ⟨k, x, y, nm, aw, nw, cw, ar, nr, cr, ak, nk, ck, T, rfl, hN, hT, hA, hF⟩; have hN9 := Lib.hid hN; have hT9 := Lib.hid hT; have hA9 := Lib.hid hA; have hF9 := Lib.hid hF; have hB9 := hF.blk hb6.out hqb5; have z0 := hB9.cell 0; have z1 := hB9.cell 1; have z2 := hB9.cell 2; have z3 := hB9.cell 3; have z4 := hB9.cell 4; have z5 := hB9.cell 5; have z6 := hB9.cell 6; have g0 := hB9.frozen 0; have g1 := hB9.frozen 1; have g2 := hB9.frozen 2; have g3 := hB9.frozen 3; have g4 := hB9.frozen 4; have g5 := hB9.frozen 5; have g6 := hB9.frozen 6; clear hN hT hA hF))
                  go_meet
                  case rel => exact Lib.hid (CoR.call hN9.out hT9.out hA9.out hF9.out hw6.out hz6.out hb6.out hq45 hqw5 hqb2 hqb5 hq516)
              · have hd24 : d ≤ 24 := df5.out rfl
                have hcx := Lib.hid (fun W (hp : PF b s W (nextP s st)) => forEach_f (B := B) (hCH.out hd24) hp)
                rw [show forP s B (d + 1) (nextP s st) = (nC, sC) from hC2] at hcx
                go_wp2_with (first
                  | (go_at_call 100; refine (tf5.out _ hp4.out).mono ?_; rintro e v5 ⟨rfl, hA, hF⟩; have hp5 := Lib.hid (hcx.out v5 (show PF b s v5 (nextP s st) from hA)); have hw5 := Lib.hid (hw4.out.trans hF); have hz5 := Lib.hid (hF.blk hz4.out hqb2); have hb5 := Lib.hid (hF.blk hb4.out hqb5); have hk5 := Lib.hid (hF.blk hk4.out hq6b); have tk1 := hk5.out.cell 1; clear hA hF)
                  | (go_at_call 104; refine hp5.out.mono ?_; rintro e v9 ⟨k, x, y, nm, aw, nw, cw, ar, nr, cr, ak, nk, ck, T, rfl, hN, hT, hA, hF⟩; have hN9 := Lib.hid hN; have hT9 := Lib.hid hT; have hA9 := Lib.hid hA; have hF9 := Lib.hid hF; have hB9 := hF.blk hb5.out hqb5; have z0 := hB9.cell 0; have z1 := hB9.cell 1; have z2 := hB9.cell 2; have z3 := hB9.cell 3; have z4 := hB9.cell 4; have z5 := hB9.cell 5; have z6 := hB9.cell 6; have g0 := hB9.frozen 0; have g1 := hB9.frozen 1; have g2 := hB9.frozen 2; have g3 := hB9.frozen 3; have g4 := hB9.frozen 4; have g5 := hB9.frozen 5; have g6 := hB9.frozen 6; clear hN hT hA hF))
                go_meet
                case rel => exact Lib.hid (CoR.call hN9.out hT9.out hA9.out hF9.out hw5.out hz5.out hb5.out hq45 hqw5 hqb2 hqb5 hq516)
            · have hd24 : d ≤ 24 := df4.out rfl
              have hcx := Lib.hid (fun W (hp : PF b s W (nextP s st)) => loop_f (B := B) t.text (hCH.out hd24) hp)
              rw [show loopP s B t.text (d + 1) (nextP s st) = (nC, sC) from hC2] at hcx
              go_wp2_with (first
                | (go_at_call 100; refine (tf4.out _ hp3.out).mono ?_; rintro e v4 ⟨rfl, hA, hF⟩; have hp4 := Lib.hid (hcx.out v4 (show PF b s v4 (nextP s st) from hA)); have hw4 := Lib.hid (hw3.out.trans hF); have hz4 := Lib.hid (hF.blk hz3.out hqb2); have hb4 := Lib.hid (hF.blk hb3.out hqb5); have hk4 := Lib.hid (hF.blk hk3.out hq6b); have tk1 := hk4.out.cell 1; clear hA hF)
                | (go_at_call 103; refine hp4.out.mono ?_; rintro e v9 ⟨k, x, y, nm, aw, nw, cw, ar, nr, cr, ak, nk, ck, T, rfl, hN, hT, hA, hF⟩; have hN9 := Lib.hid hN; have hT9 := Lib.hid hT; have hA9 := Lib.hid hA; have hF9 := Lib.hid hF; have hB9 := hF.blk hb4.out hqb5; have z0 := hB9.cell 0; have z1 := hB9.cell 1; have z2 := hB9.cell 2; have z3 := hB9.cell 3; have z4 := hB9.cell 4; have z5 := hB9.cell 5; have z6 := hB9.cell 6; have g0 := hB9.frozen 0; have g1 := hB9.frozen 1; have g2 := hB9.frozen 2; have g3 := hB9.frozen 3; have g4 := hB9.frozen 4; have g5 := hB9.frozen 5; have g6 := hB9.frozen 6; clear hN hT hA hF))
              go_meet
              case rel => exact Lib.hid (CoR.call hN9.out hT9.out hA9.out hF9.out hw4.out hz4.out hb4.out hq45 hqw5 hqb2 hqb5 hq516)
          · have hd24 : d ≤ 24 := df3.out rfl
            have hcx := Lib.hid (fun W (hp : PF b s W (nextP s st)) => loop_f (B := B) t.text (hCH.out hd24) hp)
            rw [show loopP s B t.text (d + 1) (nextP s st) = (nC, sC) from hC2] at hcx
            go_wp2_with (first
              | (go_at_call 100; refine (tf3.out _ hp2.out).mono ?_; rintro e v3 ⟨rfl, hA, hF⟩; have hp3 := Lib.hid (hcx.out v3 (show PF b s v3 (nextP s st) from hA)); have hw3 := Lib.hid (hw2.out.trans hF); have hz3 := Lib.hid (hF.blk hz2.out hqb2); have hb3 := Lib.hid (hF.blk hb2.out hqb5); have hk3 := Lib.hid (hF.blk hk2.out hq6b); have tk1 := hk3.out.cell 1; clear hA hF)
              | (go_at_call 103; refine hp3.out.mono ?_; rintro e v9 ⟨k, x, y, nm, aw, nw, cw, ar, nr, cr, ak, nk, ck, T, rfl, hN, hT, hA, hF⟩; have hN9 := Lib.hid hN; have hT9 := Lib.hid hT; have hA9 := Lib.hid hA; have hF9 := Lib.hid hF; have hB9 := hF.blk hb3.out hqb5; have z0 := hB9.cell 0; have z1 := hB9.cell 1; have z2 := hB9.cell 2; have z3 := hB9.cell 3; have z4 := hB9.cell 4; have z5 := hB9.cell 5; have z6 := hB9.cell 6; have g0 := hB9.frozen 0; have g1 := hB9.frozen 1; have g2 := hB9.frozen 2; have g3 := hB9.frozen 3; have g4 := hB9.frozen 4; have g5 := hB9.frozen 5; have g6 := hB9.frozen 6; clear hN hT hA hF))
            go_meet
            case rel => exact Lib.hid (CoR.call hN9.out hT9.out hA9.out hF9.out hw3.out hz3.out hb3.out hq45 hqw5 hqb2 hqb5 hq516)
        · have hd24 : d ≤ 24 := df2.out rfl
          have hcx := Lib.hid (fun W (hp : PF b s W (nextP s st)) => choice_f (B := B) hBH.out (hCH.out hd24) hp)
          rw [show chP s B (d + 1) (nextP s st) = (nC, sC) from hC2] at hcx
          go_wp2_with (first
            | (go_at_call 100; refine (tf2.out _ hp1.out).mono ?_; rintro e v2 ⟨rfl, hA, hF⟩; have hp2 := Lib.hid (hcx.out v2 (show PF b s v2 (nextP s st) from hA)); have hw2 := Lib.hid (hw1.out.trans hF); have hz2 := Lib.hid (hF.blk hz1.out hqb2); have hb2 := Lib.hid (hF.blk hb1.out hqb5); have hk2 := Lib.hid (hF.blk hk1.out hq6b); have tk1 := hk2.out.cell 1; clear hA hF)
            | (go_at_call 102; refine hp2.out.mono ?_; rintro e v9 ⟨k, x, y, nm, aw, nw, cw, ar, nr, cr, ak, nk, ck, T, rfl, hN, hT, hA, hF⟩; have hN9 := Lib.hid hN; have hT9 := Lib.hid hT; have hA9 := Lib.hid hA; have hF9 := Lib.hid hF; have hB9 := hF.blk hb2.out hqb5; have z0 := hB9.cell 0; have z1 := hB9.cell 1; have z2 := hB9.cell 2; have z3 := hB9.cell 3; have z4 := hB9.cell 4; have z5 := hB9.cell 5; have z6 := hB9.cell 6; have g0 := hB9.frozen 0; have g1 := hB9.frozen 1; have g2 := hB9.frozen 2; have g3 := hB9.frozen 3; have g4 := hB9.frozen 4; have g5 := hB9.frozen 5; have g6 := hB9.frozen 6; clear hN hT hA hF))
          go_meet
          case rel => exact Lib.hid (CoR.call hN9.out hT9.out hA9.out hF9.out hw2.out hz2.out hb2.out hq45 hqw5 hqb2 hqb5 hq516)
      · have hd24 : d ≤ 24 := df1.out rfl
        have hcb := Lib.hid (fun W hp => hCH.out hd24 b W (nextP s st) hp)
        obtain ⟨A1, hA1'⟩ : ∃ A, B (d + 1) (nextP s st) = A := ⟨_, rfl⟩
        have hC3 : (ndK 8 [(B (d + 1) (nextP s st)).1], needP s (hasW s [125] (B (d + 1) (nextP s st)).2) (B (d + 1) (nextP s st)).2) = (nC, sC) := hC2
        rw [hA1'] at hcb hC3
        obtain ⟨n1, st1⟩ := A1
        dsimp only at hcb hC3
        have hne := Lib.hid (fun W (hp : PF b s W st1) => needWord_f hp ⟨#[125]⟩)
        rw [show (⟨#[125]⟩ : ByteArray).toList = [125] by kernel_rfl] at hne
        obtain ⟨rfl, h9⟩ : ndK 8 [n1] = nC ∧ needP s (hasW s [125] st1) st1 = sC := by simpa using hC3
        rw [h9] at hne
        clear hA1' hC3 h9 hC2
        go_upto_region 11 with (first
          | (go_at_call 100; refine (tf1.out _ hp0.out).mono ?_; rintro e v1 ⟨rfl, hA, hF⟩; have hp1 := Lib.hid (hcb.out v1 (show PF b s v1 (nextP s st) from hA)); have hw1 := Lib.hid (hw0.out.trans hF); have hz1 := Lib.hid (hF.blk hz0.out hqb2); have hb1 := Lib.hid (hF.blk hb0.out hqb5); clear hA hF)
          | (go_at_call 98; refine hp1.out.mono ?_; rintro e v9 ⟨k, x, y, nm, aw, nw, cw, ar, nr, cr, ak, nk, ck, T, rfl, hN, hT, hA, hF⟩; have hN9 := Lib.hid hN; have hT9 := Lib.hid hT; have hA9 := Lib.hid hA; have hF9 := Lib.hid hF; have hB9 := hF.blk hb1.out hqb5; have l5 : q5 < v9.heap.size := hB9.lt; have z0 := hB9.cell 0; have z1 := hB9.cell 1; have z2 := hB9.cell 2; have z3 := hB9.cell 3; have z4 := hB9.cell 4; have z5 := hB9.cell 5; have z6 := hB9.cell 6; have g0 := hB9.frozen 0; have g1 := hB9.frozen 1; have g2 := hB9.frozen 2; have g3 := hB9.frozen 3; have g4 := hB9.frozen 4; have g5 := hB9.frozen 5; have g6 := hB9.frozen 6; clear hN hT hA hF))
        have hco := CoR.callk 8 hN9.out hT9.out hA9.out hF9.out hw1.out hz1.out hb1.out hq45 hqw5 hqb2 hqb5 hq516
        have hcoH := Lib.hid hco
        obtain ⟨W4, hW4⟩ : ∃ W, (put7 v9 q5 (.int .i64 8) (.bool false) (.bool false) (.string ⟨#[]⟩) (.slice none 0 0) (.slice none 0 0) (.slice (some ⟨v9.heap.size, 0, none⟩) 1 1)).alloc (.cells #[.int .i64 k, .bool x, .bool y, .string nm, .slice aw nw cw, .slice ar nr cr, .slice ak nk ck] 30) = W := ⟨_, rfl⟩
        rw [hW4] at hcoH
        unfold put7 at hW4
        rw [hW4]
        have hne4 := Lib.hid (hne.out _ hcoH.out.pf)
        clear hW4 hco z0 z1 z2 z3 z4 z5 z6 g0 g1 g2 g3 g4 g5 g6 l5 hB9 hne
        go_wp2_with (go_at_call 101; refine hne4.out.mono ?_; rintro e v10 ⟨rfl, hA, hF⟩; have hA10 := Lib.hid hA; have hF10 := Lib.hid hF; clear hA hF)
        go_meet
        case rel => exact Lib.hid (hcoH.out.keep hF10.out hA10.out hlt hqb2 hqb5)
    case rest =>
      have hco6 := Lib.hid hcut.out
      have hrd6 := Lib.hid (hrd.out _ hco6.out.pf)
      clear hcut hrd
      go_upto_region 22 with (go_at_call 99; refine hrd6.out.mono ?_; rintro e w7 ⟨aR, cR, TR, rfl, hD7, hT7, hA7, hF7⟩; have hfin := hco6.out.fin hD7 hT7 hF7 hA7 hlt hqb2 hqb5 hq45 hqw5 hq516; obtain ⟨k2, x2, y2, nm2, aw2, nw2, cw2, ak2, nk2, ck2, T2, ar2, nr2, cr2, f1, f2, f3, f4, f5, f6, f7⟩ := hfin; have u5 := f1.cell 5; have r5 := f1.frozen 5; have f2H := Lib.hid f2; have f3H := Lib.hid f3; have f4H := Lib.hid f4; have f5H := Lib.hid f5; have f6H := Lib.hid f6; have f7H := Lib.hid f7; clear hD7 hT7 hA7 hF7 f1 f2 f3 f4 f5 f6 f7)
      obtain ⟨W8, hW8⟩ : ∃ W, w7.setCell ⟨q5, 5, none⟩ (.slice aR rs.length cR) = W := ⟨_, rfl⟩
      rw [hW8] at f2H f3H f4H f5H f6H
      rw [hW8]
      have c0 : W8.cell? ⟨q5, 0, none⟩ = some (.int .i64 k2) := f5H.out.cell 0
      have c1 : W8.cell? ⟨q5, 1, none⟩ = some (.bool x2) := f5H.out.cell 1
      have c2 : W8.cell? ⟨q5, 2, none⟩ = some (.bool y2) := f5H.out.cell 2
      have c3 : W8.cell? ⟨q5, 3, none⟩ = some (.string nm2) := f5H.out.cell 3
      have c4 : W8.cell? ⟨q5, 4, none⟩ = some (.slice aw2 nw2 cw2) := f5H.out.cell 4
      have c5 : W8.cell? ⟨q5, 5, none⟩ = some (.slice aR rs.length cR) := f5H.out.cell 5
      have c6 : W8.cell? ⟨q5, 6, none⟩ = some (.slice ak2 nk2 ck2) := f5H.out.cell 6
      have z0 : W8.cell? ⟨q4, 0, none⟩ = some (.int .i64 0) := f4H.out.cell 0
      have z1 : W8.cell? ⟨q4, 1, none⟩ = some (.bool false) := f4H.out.cell 1
      have z2 : W8.cell? ⟨q4, 2, none⟩ = some (.bool false) := f4H.out.cell 2
      have z3 : W8.cell? ⟨q4, 3, none⟩ = some (.string ⟨#[]⟩) := f4H.out.cell 3
      have z4 : W8.cell? ⟨q4, 4, none⟩ = some (.slice none 0 0) := f4H.out.cell 4
      have z5 : W8.cell? ⟨q4, 5, none⟩ = some (.slice none 0 0) := f4H.out.cell 5
      have z6 : W8.cell? ⟨q4, 6, none⟩ = some (.slice none 0 0) := f4H.out.cell 6
      have g0 := f4H.out.frozen 0
      have g1 := f4H.out.frozen 1
      have g2 := f4H.out.frozen 2
      have g3 := f4H.out.frozen 3
      have g4 := f4H.out.frozen 4
      have g5 := f4H.out.frozen 5
      have g6 := f4H.out.frozen 6
      clear hW8 u5 r5
      go_wp2_with fail
      refine bodyPost_ret (results_cell_row rfl _ _ q4 30 #[.int .i64 k2, .bool x2, .bool y2, .string nm2, .slice aw2 nw2 cw2, .slice aR rs.length cR, .slice ak2 nk2 ck2] (0, 0) _ rfl (put7_blk f4H.out _ _ _ _ _ _ _) Tryz.underlying30 rfl (by kernel_rfl)) rfl ?_
      exact f6H.out.an f4H.out f7H.out (Nat.le_of_eq hq4H.out) hqb2 hq16 f2H.out f3H.out
  · have hd24 : d ≤ 24 := hdo rfl
    have hcb := Lib.hid (fun W hp => hCH.out hd24 b W (nextP s st) hp)
    have hC1 := hC0H.out
    rw [if_pos rfl] at hC1
    dsimp only at hC1
    obtain ⟨A1, hA1'⟩ : ∃ A, B (d + 1) (nextP s st) = A := ⟨_, rfl⟩
    rw [hA1'] at hcb hC1
    obtain ⟨n1, st1⟩ := A1
    dsimp only at hcb hC1
    obtain ⟨m, hm⟩ : ∃ m, hasO s [41] st1 = m := ⟨_, rfl⟩
    have hio := Lib.hid (fun W (hp : PF b s W st1) => isOp_f hp ⟨#[41]⟩)
    rw [show (⟨#[41]⟩ : ByteArray).toList = [41] by kernel_rfl, hm] at hio
    rw [hm] at hC1
    have hne := Lib.hid (fun W (hp : PF b s W st1) => need_f hp m)
    obtain ⟨rfl, rfl⟩ : ndK 7 [n1] = nC ∧ needP s m st1 = sC := by simpa using hC1
    clear hC0H hA1' hm hC1 hdo
    go_upto_region 4 with (first
      | (go_at_call 45; refine htoH.out.mono ?_; rintro e w2 ⟨rfl, hA2, hF2⟩; have hA2H := Lib.hid (hcb.out w2 (show PF b s w2 (nextP s st) from hA2)); have hF2H := Lib.hid hF2; have hZ2 := Lib.hid (hF2.blk hZ.out hqb2); have hB2 := Lib.hid (hF2.blk hB5.out hqb5); clear hA2 hF2)
      | (go_at_call 98; refine hA2H.out.mono ?_; rintro e w3 ⟨k, x, y, nm, aw, nw, cw, ar, nr, cr, ak, nk, ck, T, rfl, hN, hT, hA3, hF3⟩; have hN3 := Lib.hid hN; have hT3 := Lib.hid hT; have hA3H := Lib.hid hA3; have hF3H := Lib.hid hF3; have hB3 := Lib.hid (hF3.blk hB2.out hqb5); have hZ3 := Lib.hid (hF3.blk hZ2.out hqb2); have l5 : q5 < w3.heap.size := hB3.out.lt; have z0 := hB3.out.cell 0; have z1 := hB3.out.cell 1; have z2 := hB3.out.cell 2; have z3 := hB3.out.cell 3; have z4 := hB3.out.cell 4; have z5 := hB3.out.cell 5; have z6 := hB3.out.cell 6; have g0 := hB3.out.frozen 0; have g1 := hB3.out.frozen 1; have g2 := hB3.out.frozen 2; have g3 := hB3.out.frozen 3; have g4 := hB3.out.frozen 4; have g5 := hB3.out.frozen 5; have g6 := hB3.out.frozen 6; clear hN hT hA3 hF3))
    have hwz := (hF1.out.trans hF2H.out).size
    have hco := CoR.kid 7 (show Hd b w n1 k x y nm aw nw cw ar nr cr ak nk ck T w3 from ⟨hN3.out, fun g hg => ⟨Nat.le_trans hwz (hT3.out g hg).1, (hT3.out g hg).2⟩⟩) hA3H.out ((hF1.out.trans hF2H.out).trans hF3H.out) hZ3.out hB3.out (fun e => by have := (hT3.out _ e).1; have := hZ2.out.lt; omega) (fun e => by have := (hT3.out _ e).1; have := hB2.out.lt; omega) hq45 hqw5 hqb5 hq516
    have hcoH := Lib.hid hco
    obtain ⟨W4, hW4⟩ : ∃ W, (put7 w3 q5 (.int .i64 7) (.bool false) (.bool false) (.string ⟨#[]⟩) (.slice none 0 0) (.slice none 0 0) (.slice (some ⟨w3.heap.size, 0, none⟩) 1 1)).alloc (.cells #[.int .i64 k, .bool x, .bool y, .string nm, .slice aw nw cw, .slice ar nr cr, .slice ak nk ck] 30) = W := ⟨_, rfl⟩
    rw [hW4] at hcoH
    unfold put7 at hW4
    rw [hW4]
    clear hW4 hco z0 z1 z2 z3 z4 z5 z6 g0 g1 g2 g3 g4 g5 g6 l5
    have hpf4 := Lib.hid (show PF b s W4 st1 by obtain ⟨_, _, _, _, _, _, _, _, _, _, _, _, _, _, h9, _⟩ := hcoH.out; exact h9)
    have hio4 := Lib.hid (hio.out _ hpf4.out)
    clear hio hcb
    go_upto_region 5 with (first
      | (go_at_call 61; refine hio4.out.mono ?_; rintro e w5 ⟨rfl, hA5, hF5⟩; have hA5H := Lib.hid (hne.out _ hA5); have hF5H := Lib.hid hF5; clear hA5 hF5)
      | (go_at_call 22; refine hA5H.out.mono ?_; rintro e w6 ⟨rfl, hA6, hF6⟩; have hA6H := Lib.hid hA6; have hF6H := Lib.hid (hF5H.out.trans hF6); clear hA6 hF6))
    have hco6 := Lib.hid (hcoH.out.keep hF6H.out hA6H.out hlt hqb2 hqb5)
    have hrd6 := Lib.hid (hrd.out _ hA6H.out)
    clear hcoH hrd hne
    go_upto_region 6 with (go_at_call 99; refine hrd6.out.mono ?_; rintro e w7 ⟨aR, cR, TR, rfl, hD7, hT7, hA7, hF7⟩; have hfin := hco6.out.fin hD7 hT7 hF7 hA7 hlt hqb2 hqb5 hq45 hqw5 hq516; obtain ⟨k2, x2, y2, nm2, aw2, nw2, cw2, ak2, nk2, ck2, T2, ar2, nr2, cr2, f1, f2, f3, f4, f5, f6, f7⟩ := hfin; have u5 := f1.cell 5; have r5 := f1.frozen 5; have f2H := Lib.hid f2; have f3H := Lib.hid f3; have f4H := Lib.hid f4; have f5H := Lib.hid f5; have f6H := Lib.hid f6; have f7H := Lib.hid f7; clear hD7 hT7 hA7 hF7 f1 f2 f3 f4 f5 f6 f7)
    obtain ⟨W8, hW8⟩ : ∃ W, w7.setCell ⟨q5, 5, none⟩ (.slice aR rs.length cR) = W := ⟨_, rfl⟩
    rw [hW8] at f2H f3H f4H f5H f6H
    rw [hW8]
    have c0 : W8.cell? ⟨q5, 0, none⟩ = some (.int .i64 k2) := f5H.out.cell 0
    have c1 : W8.cell? ⟨q5, 1, none⟩ = some (.bool x2) := f5H.out.cell 1
    have c2 : W8.cell? ⟨q5, 2, none⟩ = some (.bool y2) := f5H.out.cell 2
    have c3 : W8.cell? ⟨q5, 3, none⟩ = some (.string nm2) := f5H.out.cell 3
    have c4 : W8.cell? ⟨q5, 4, none⟩ = some (.slice aw2 nw2 cw2) := f5H.out.cell 4
    have c5 : W8.cell? ⟨q5, 5, none⟩ = some (.slice aR rs.length cR) := f5H.out.cell 5
    have c6 : W8.cell? ⟨q5, 6, none⟩ = some (.slice ak2 nk2 ck2) := f5H.out.cell 6
    have z0 : W8.cell? ⟨q4, 0, none⟩ = some (.int .i64 0) := f4H.out.cell 0
    have z1 : W8.cell? ⟨q4, 1, none⟩ = some (.bool false) := f4H.out.cell 1
    have z2 : W8.cell? ⟨q4, 2, none⟩ = some (.bool false) := f4H.out.cell 2
    have z3 : W8.cell? ⟨q4, 3, none⟩ = some (.string ⟨#[]⟩) := f4H.out.cell 3
    have z4 : W8.cell? ⟨q4, 4, none⟩ = some (.slice none 0 0) := f4H.out.cell 4
    have z5 : W8.cell? ⟨q4, 5, none⟩ = some (.slice none 0 0) := f4H.out.cell 5
    have z6 : W8.cell? ⟨q4, 6, none⟩ = some (.slice none 0 0) := f4H.out.cell 6
    have g0 := f4H.out.frozen 0
    have g1 := f4H.out.frozen 1
    have g2 := f4H.out.frozen 2
    have g3 := f4H.out.frozen 3
    have g4 := f4H.out.frozen 4
    have g5 := f4H.out.frozen 5
    have g6 := f4H.out.frozen 6
    clear hW8 u5 r5
    go_wp2_with fail
    refine bodyPost_ret (results_cell_row rfl _ _ q4 30 #[.int .i64 k2, .bool x2, .bool y2, .string nm2, .slice aw2 nw2 cw2, .slice aR rs.length cR, .slice ak2 nk2 ck2] (0, 0) _ rfl (put7_blk f4H.out _ _ _ _ _ _ _) Tryz.underlying30 rfl (by kernel_rfl)) rfl ?_
    exact f6H.out.an f4H.out f7H.out (Nat.le_of_eq hq4H.out) hqb2 hq16 f2H.out f3H.out
end
end Go.Proofs.YtnhbcmhinhncfaaGreatDoor
/- A function. Conditions: the parser lies as stated; a body's contract is handed in. -/
namespace Go.Proofs.YtnhbcmhinhncfaaGreatDoor
open Go.RowKit Go.Shelf Go.PlainAid
set_option linter.unusedVariables false
set_option linter.unusedSimpArgs false
attribute [local go_sem] Oper.semAt_some
section
variable {b q4 : Nat} {s : ByteArray} {w : World} {st : PS} {B : Int → PS → Nd × PS} {d : Int}
theorem fun_an {n : Nd} {W W' : World} {k : Int} {x y : Bool} {nm : ByteArray} {aw : Option Addr} {nw cw : Nat} {ar : Option Addr} {nr cr : Nat} {ak : Option Addr} {nk ck : Nat} {T : Nat → Prop} (name : ByteArray) (hN : NdAt W' T [.int .i64 k, .bool x, .bool y, .string nm, .slice aw nw cw, .slice ar nr cr, .slice ak nk ck] n) (hT : ∀ g, T g → W.heap.size ≤ g ∧ g < W'.heap.size) (hp : PF b s W' st) (hf : Fb b W W') (hw : Fb b w W) (hz : Blk W q4 30 N7) (hqw : w.heap.size ≤ q4) (hqb : q4 ≠ b) (h16 : 8 ≤ q4) :
    NdAn b s w (.mk 14 false false name [] [] [n]) st (.returned (.agg #[.int .i64 14, .bool false, .bool false, .string name, .slice none 0 0, .slice none 0 0, .slice (some ⟨W'.heap.size, 0, none⟩) 1 1])) ((put7 W' q4 (.int .i64 14) (.bool false) (.bool false) (.string name) (.slice none 0 0) (.slice none 0 0) (.slice (some ⟨W'.heap.size, 0, none⟩) 1 1)).alloc (.cells #[.int .i64 k, .bool x, .bool y, .string nm, .slice aw nw cw, .slice ar nr cr, .slice ak nk ck] 30)) := by
  have hB := hf.blk hz hqb
  have hp8 := hp.put7 hB (by decide) hqb h16 (.int .i64 14) (.bool false) (.bool false) (.string name) (.slice none 0 0) (.slice none 0 0) (.slice (some ⟨W'.heap.size, 0, none⟩) 1 1)
  have hf8 := put7_fb (hw.trans hf) hqw (.int .i64 14) (.bool false) (.bool false) (.string name) (.slice none 0 0) (.slice none 0 0) (.slice (some ⟨W'.heap.size, 0, none⟩) 1 1)
  have hk8 : ∀ g, g ≠ q4 → (put7 W' q4 (.int .i64 14) (.bool false) (.bool false) (.string name) (.slice none 0 0) (.slice none 0 0) (.slice (some ⟨W'.heap.size, 0, none⟩) 1 1)).heap[g]? = W'.heap[g]? := fun g hg => put7_far _ _ _ _ _ _ _ _ _ hg
  have hs8 : (put7 W' q4 (.int .i64 14) (.bool false) (.bool false) (.string name) (.slice none 0 0) (.slice none 0 0) (.slice (some ⟨W'.heap.size, 0, none⟩) 1 1)).heap.size = W'.heap.size := put7_size _ _ _ _ _ _ _ _ _
  obtain ⟨W8, hW8⟩ : ∃ X, put7 W' q4 (.int .i64 14) (.bool false) (.bool false) (.string name) (.slice none 0 0) (.slice none 0 0) (.slice (some ⟨W'.heap.size, 0, none⟩) 1 1) = X := ⟨_, rfl⟩
  rw [hW8] at hp8 hf8 hk8 hs8 ⊢
  have hb : Below W8.heap.size W8 (W8.alloc (.cells #[.int .i64 k, .bool x, .bool y, .string nm, .slice aw nw cw, .slice ar nr cr, .slice ak nk ck] 30)) := (Below.refl _ _).alloc (Nat.le_refl _) _
  have hBn : Blk (W8.alloc (.cells #[.int .i64 k, .bool x, .bool y, .string nm, .slice aw nw cw, .slice ar nr cr, .slice ak nk ck] 30)) W'.heap.size 30 #[.int .i64 k, .bool x, .bool y, .string nm, .slice aw nw cw, .slice ar nr cr, .slice ak nk ck] := by rw [← hs8]; exact Blk.new _ _ _
  have hs9 : (W8.alloc (.cells #[.int .i64 k, .bool x, .bool y, .string nm, .slice aw nw cw, .slice ar nr cr, .slice ak nk ck] 30)).heap.size = W'.heap.size + 1 := by rw [World.size_alloc, hs8]
  have h4l := hz.lt
  have hwz := hw.size
  have hN1 : NdAt (W8.alloc (.cells #[.int .i64 k, .bool x, .bool y, .string nm, .slice aw nw cw, .slice ar nr cr, .slice ak nk ck] 30)) (fun g => T g ∨ g = W'.heap.size) [.int .i64 k, .bool x, .bool y, .string nm, .slice aw nw cw, .slice ar nr cr, .slice ak nk ck] n := hN.keep (fun g hg => (hb.block g (by have := (hT g hg).2; omega)).trans (hk8 g (by have := (hT g hg).1; omega))) (fun _ => .inl)
  refine ⟨14, false, false, name, none, 0, 0, none, 0, 0, some ⟨W'.heap.size, 0, none⟩, 1, 1, fun g => T g ∨ g = W'.heap.size, rfl, NdAt.of (ws := []) (rs := []) (kids := [n]) (Done.nil _ _ _ _) (Done.nil _ _ _ _) (kids1 hBn hN1 (.inr rfl)), fun g hg => ?_, hp8.below hb, hf8.trans (Fb.of_below hb)⟩
  rw [hs9]
  have := hf.size
  rcases hg with hg | hg
  · have := hT g hg; omega
  · omega
set_option maxRecDepth 100000 in
set_option maxHeartbeats 8000000 in
theorem function_f (name : ByteArray) (hd0 : 0 ≤ d) (hd1 : d ≤ 24) (hB : ∀ (d : Int) (st : PS), PW s st → Lo s st (B d st).2) (hC : d + 1 ≤ 24 → BodyC s B (d + 1 + 1)) (h : PF b s w st) : Calls Tryz.prog 109 #[ptr b, .string name, .int .i64 d] w (NdAn b s w (funP s B name d st).1 (funP s B name d st).2) := by
  obtain ⟨q4, hq4⟩ : ∃ x, w.heap.size = x := ⟨_, rfl⟩
  have hlt := h.lt
  have h16 := h.b16
  have hqb2 : q4 ≠ b := by omega
  have hq16 : 8 ≤ q4 := by omega
  obtain ⟨W, hW⟩ : ∃ W, w.alloc (.cells N7 30) = W := ⟨_, rfl⟩
  have hb1 : Below w.heap.size w W := by rw [← hW]; exact (Below.refl _ _).alloc (Nat.le_refl _) _
  have hZ := Lib.hid (show Blk W q4 30 N7 by rw [← hW, ← hq4]; exact Blk.new _ _ _)
  have hF1 := Lib.hid (Fb.of_below (b := b) hb1)
  have hnx := Lib.hid (next_f (h.below hb1))
  have ok1 := pw_next h.ok
  have hr := Lib.hid (show funP s B name d st = (.mk 14 false false name [] [] [(compP s B (d + 1) (askD s (d + 1) (newl s (needP s (hasO s [41] (nextP s st)) (nextP s st))))).1], (compP s B (d + 1) (askD s (d + 1) (newl s (needP s (hasO s [41] (nextP s st)) (nextP s st))))).2) from rfl)
  obtain ⟨s1, hs1⟩ : ∃ x, nextP s st = x := ⟨_, rfl⟩
  rw [hs1] at hnx hr ok1
  have hio := Lib.hid (fun W (hp : PF b s W s1) => isOp_f hp ⟨#[41]⟩)
  rw [show (⟨#[41]⟩ : ByteArray).toList = [41] by kernel_rfl] at hio
  obtain ⟨m, hm⟩ : ∃ m, hasO s [41] s1 = m := ⟨_, rfl⟩
  rw [hm] at hio hr
  have hne := Lib.hid (fun W (hp : PF b s W s1) => need_f hp m)
  have ok2 := (lo_need ok1 m).ok
  obtain ⟨s2, hs2⟩ : ∃ x, needP s m s1 = x := ⟨_, rfl⟩
  rw [hs2] at hne hr ok2
  have hnl := Lib.hid (fun W (hp : PF b s W s2) => newlines_f hp)
  obtain ⟨s3, hs3⟩ : ∃ x, newl s s2 = x := ⟨_, rfl⟩
  rw [hs3] at hnl hr
  have hak := Lib.hid (fun W (hp : PF b s W s3) => asksDepth_f hp (d + 1))
  have hj : 24 < d + 1 → rem s (askD s (d + 1) s3) = 0 := fun hd => by unfold askD; rw [if_pos hd]; rfl
  obtain ⟨s4, hs4⟩ : ∃ x, askD s (d + 1) s3 = x := ⟨_, rfl⟩
  rw [hs4] at hak hr hj
  have hco := Lib.hid (fun W (hp : PF b s W s4) => compound_f (B := B) (d := d + 1) (by omega) (by omega) hB hC hj hp)
  obtain ⟨R, hR⟩ : ∃ R, compP s B (d + 1) s4 = R := ⟨_, rfl⟩
  rw [hR] at hco hr
  obtain ⟨n, s5⟩ := R
  dsimp only at hco hr
  rw [hr.out]
  have hWH := Lib.hid hW
  have hqH := Lib.hid hq4
  clear hW hb1 h hq4 hR hs1 hs2 hs3 hs4 hm ok1 ok2 hj hB hC hr
  go_enter Tryz.func109, Tryz.ntmps109
  go_upto_region 1 with fail
  rw [hWH.out, hqH.out]
  go_upto_region 3 with (first
    | (go_at_call 27; refine hnx.out.mono ?_; rintro e w2 ⟨rfl, hA, hF⟩; have hi2 := Lib.hid (hio.out _ hA); have hf2 := Lib.hid hF; clear hA hF)
    | (go_at_call 61; refine hi2.out.mono ?_; rintro e w3 ⟨rfl, hA, hF⟩; have hi3 := Lib.hid (hne.out _ hA); have hf3 := Lib.hid (hf2.out.trans hF); clear hA hF)
    | (go_at_call 22; refine hi3.out.mono ?_; rintro e w4 ⟨rfl, hA, hF⟩; have hi4 := Lib.hid (hnl.out _ hA); have hf4 := Lib.hid (hf3.out.trans hF); clear hA hF))
  go_upto_region 5 with (first
    | (go_at_call 19; refine hi4.out.mono ?_; rintro e w5 ⟨rfl, hA, hF⟩; have hi5 := Lib.hid (hak.out _ hA); have hf5 := Lib.hid (hf4.out.trans hF); clear hA hF)
    | (go_at_call 75; refine hi5.out.mono ?_; rintro e w6 ⟨rfl, hA, hF⟩; have hi6 := Lib.hid (hco.out _ hA); have hf6 := Lib.hid (hf5.out.trans hF); clear hA hF))
  have hz6 := Lib.hid (hf6.out.blk hZ.out hqb2)
  go_wp2_with (go_at_call 90; refine hi6.out.mono ?_; rintro e w7 ⟨k, x, y, nm, aw, nw, cw, ar, nr, cr, ak, nk, ck, T, rfl, hN, hT, hA, hF⟩; have hN7 := Lib.hid hN; have hT7 := Lib.hid hT; have hA7 := Lib.hid hA; have hF7 := Lib.hid hF; have hB9 := hF.blk hz6.out hqb2; have l5 : q4 < w7.heap.size := hB9.lt; have z0 := hB9.cell 0; have z1 := hB9.cell 1; have z2 := hB9.cell 2; have z3 := hB9.cell 3; have z4 := hB9.cell 4; have z5 := hB9.cell 5; have z6 := hB9.cell 6; have g0 := hB9.frozen 0; have g1 := hB9.frozen 1; have g2 := hB9.frozen 2; have g3 := hB9.frozen 3; have g4 := hB9.frozen 4; have g5 := hB9.frozen 5; have g6 := hB9.frozen 6; clear hN hT hA hF)
  refine bodyPost_ret (results_cell_row rfl _ _ q4 30 #[.int .i64 14, .bool false, .bool false, .string name, .slice none 0 0, .slice none 0 0, .slice (some ⟨w7.heap.size, 0, none⟩) 1 1] (0, 0) _ rfl ((put7_blk hB9 _ _ _ _ _ _ _).alloc _) Tryz.underlying30 rfl (by kernel_rfl)) rfl ?_
  exact fun_an name hN7.out hT7.out hA7.out hF7.out (hF1.out.trans hf6.out) hz6.out (Nat.le_of_eq hqH.out) hqb2 hq16
end
end Go.Proofs.YtnhbcmhinhncfaaGreatDoor
