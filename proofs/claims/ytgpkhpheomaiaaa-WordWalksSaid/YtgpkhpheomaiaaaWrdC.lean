/- What the reader's memory holds; the pile's push. No condition. -/
import Derived.Test.YtgpkhpheomaiaaaWrdA
import Derived.Lib.IndexLaws
import Derived.Lib.IndexBytes
import Derived.Below
import Derived.RangeFuncRecord
import Derived.OwnWalk
import Derived.Laws.OwnMore
import Derived.Deep.RegionHeld3
import Derived.Deep.AppendLies
import Derived.KernelRfl
namespace Go.Proofs.Ytgpkhpheomaiaaa
open Go.RowKit Go.PlainAid
attribute [local go_sem] Oper.semAt_some

theorem info_parts {t : TypeId} {z : Value} {s b : Nat} (h : (Try.prog.info? t).map (fun i => (i.zero, i.size, i.bytes)) = some (some z, s, b)) : ∃ i, Try.prog.info? t = some i ∧ i.zero = some z ∧ i.size = s ∧ i.bytes = b := by
  cases hi : Try.prog.info? t with
  | none => rw [hi] at h; cases h
  | some i => rw [hi] at h; simp at h; exact ⟨i, rfl, h.1, h.2.1, h.2.2⟩
/-- A block known whole. -/
def Blk (W : World) (g : Nat) (t : TypeId) (cs : Array Value) : Prop := W.heap[g]? = some (.cells cs t (0, 0))
theorem Blk.lt {W : World} {g : Nat} {t : TypeId} {cs : Array Value} (h : Blk W g t cs) : g < W.heap.size := (Array.getElem?_eq_some_iff.1 h).1
theorem Blk.cell {W : World} {g : Nat} {t : TypeId} {cs : Array Value} (h : Blk W g t cs) (i : Nat) : W.cell? ⟨g, i, none⟩ = cs[i]? := by
  unfold Blk at h
  simp [World.cell?, h]
theorem Blk.frozen {W : World} {g : Nat} {t : TypeId} {cs : Array Value} (h : Blk W g t cs) (i : Nat) : W.frozen? ⟨g, i, none⟩ = false := by
  unfold Blk at h
  simp [World.frozen?, h]
theorem Blk.shape {W : World} {g : Nat} {t : TypeId} {cs : Array Value} (h : Blk W g t cs) : W.shape? g = some (t, cs.size) := by
  unfold Blk at h
  simp [World.shape?, h]
theorem Blk.new (w : World) (t : TypeId) (cs : Array Value) : Blk (w.alloc (.cells cs t)) w.heap.size t cs := World.alloc_heap_new w _
theorem Blk.alloc {W : World} {g : Nat} {t : TypeId} {cs : Array Value} (h : Blk W g t cs) (o : Obj) : Blk (W.alloc o) g t cs := (Below.heap_alloc W o g h.lt).trans h
theorem Blk.set_ {W : World} {g : Nat} {t : TypeId} {cs : Array Value} (h : Blk W g t cs) (i : Nat) (u : Value) : Blk (W.setCell ⟨g, i, none⟩ u) g t (cs.setIfInBounds i u) := by
  unfold Blk at h ⊢
  simp [World.setCell, Array.getElem?_modify, h]
theorem Blk.far {W : World} {g : Nat} {t : TypeId} {cs : Array Value} (h : Blk W g t cs) {p : Addr} (hp : g ≠ p.block) (u : Value) : Blk (W.setCell p u) g t cs := (Below.heap_setCell W p u g hp).trans h
theorem row_keep {w w1 : World} {base : Nat} {e : TypeId} {size : Nat} {v : Value} {n : Nat} {xs : List Value} (h : w.ownsRow base e size v n xs) (hb : ∀ g, v.ownBlock = some g → w1.heap[g]? = w.heap[g]?) : w1.ownsRow base e size v n xs := by
  refine ⟨h.1, ?_⟩
  rcases h.2 with h | ⟨g, cap, cur, e1, e2, e3, e4⟩
  · exact .inl h
  · refine .inr ⟨g, cap, cur, e1, e2, ?_, e4⟩
    rw [hb g (by rw [e1]; rfl)]; exact e3
theorem row_lt {w : World} {base : Nat} {e : TypeId} {size : Nat} {v : Value} {n : Nat} {xs : List Value} (h : w.ownsRow base e size v n xs) {g : Nat} (hg : v.ownBlock = some g) : g < w.heap.size := (h.lt g hg).2
theorem row_beneath {w w1 : World} {base : Nat} {e : TypeId} {size : Nat} {v : Value} {n : Nat} {xs : List Value} (h : w.ownsRow base e size v n xs) (hb : Below w.heap.size w w1) : w1.ownsRow base e size v n xs :=
  row_keep h (fun g hg => hb.block g (row_lt h hg))
theorem blk_beneath {w w1 : World} {g : Nat} {t : TypeId} {cs : Array Value} (h : Blk w g t cs) (hb : Below w.heap.size w w1) : Blk w1 g t cs := (hb.block g h.lt).trans h

theorem row_off {W : World} {g : Nat} {t e : TypeId} {cs : Array Value} {base size n : Nat} {v : Value} {xs : List Value} (hB : Blk W g t cs) (hte : t ≠ e) (h : W.ownsRow base e size v n xs) : some g ≠ v.ownBlock := by
  rcases h.2 with ⟨rfl, _⟩ | ⟨g1, cap, cur, rfl, _, hb, _⟩
  · simp [Value.ownBlock]
  · intro e
    obtain rfl : g = g1 := by simpa [Value.ownBlock] using e
    have := hB.symm.trans hb
    simp at this
    exact hte this.2

theorem cell_al {W : World} {a : Addr} {o : Obj} {v : Option Value} (hl : a.block < W.heap.size) (h : W.cell? a = v) : (W.alloc o).cell? a = v := (World.cell?_of_block (Below.heap_alloc W o a.block hl)).trans h
theorem fz_al {W : World} {a : Addr} {o : Obj} {v : Bool} (hl : a.block < W.heap.size) (h : W.frozen? a = v) : (W.alloc o).frozen? a = v := (World.frozen?_of_block (Below.heap_alloc W o a.block hl)).trans h

theorem cell_st {W : World} {a p : Addr} {u : Value} {v : Option Value} (hl : a.block ≠ p.block) (h : W.cell? a = v) : (W.setCell p u).cell? a = v := (World.cell?_of_block (Below.heap_setCell W p u a.block hl)).trans h
theorem one' {W : World} {k o g o1 : Nat} {u : Value} {v : Option Value} (hl : k ≠ g) (h : W.cell? ⟨k, o, none⟩ = v) : (W.setCell ⟨g, o1, none⟩ u).cell? ⟨k, o, none⟩ = v := cell_st hl h
theorem five {W : World} {k o g o1 o2 o3 o4 o5 : Nat} {u1 u2 u3 u4 u5 : Value} {v : Option Value} (hl : k ≠ g) (h : W.cell? ⟨k, o, none⟩ = v) :
    (((((W.setCell ⟨g, o1, none⟩ u1).setCell ⟨g, o2, none⟩ u2).setCell ⟨g, o3, none⟩ u3).setCell ⟨g, o4, none⟩ u4).setCell ⟨g, o5, none⟩ u5).cell? ⟨k, o, none⟩ = v :=
  one' hl (one' hl (one' hl (one' hl (one' hl h))))
theorem gg_ne {k gg H : Nat} {r : Option Nat} (h : some k ≠ r) (hat : r = some gg ∨ gg = H) (hk : k ≠ H) : k ≠ gg := by
  rintro rfl
  rcases hat with e | e
  · exact h e.symm
  · exact hk e

/-- A part, as its five cells. -/
structure Pt where
  kind : Int
  text : ByteArray
  op : ByteArray
  wa : Option Addr
  wn : Nat
  wc : Nat
  quoted : Bool
def Pt.cells (p : Pt) : List Value := [.int .i64 p.kind, .string p.text, .string p.op, (.slice p.wa p.wn p.wc), .bool p.quoted]
def pv (ps : List Pt) : List Value := ps.flatMap Pt.cells
theorem pv_len (ps : List Pt) : (pv ps).length = ps.length * 5 := by
  induction ps with
  | nil => rfl
  | cons p ps ih => simp only [pv, List.flatMap_cons, List.length_append, List.length_cons] at ih ⊢; rw [ih]; simp [Pt.cells]; omega
theorem pv_app (ps : List Pt) (p : Pt) : pv (ps ++ [p]) = pv ps ++ p.cells := by simp [pv]

/-- The five cells of what was appended, ahead of the store. -/
theorem row_top {w : World} {n₀ g cap n : Nat} {xs : List Value} {a b c d e : Value} (h : w.ownsRow n₀ 35 5 (.slice (some ⟨g, 0, none⟩) (n + 1) cap) (n + 1) (xs ++ [a, b, c, d, e])) :
    w.cell? ⟨g, n * 5, none⟩ = some a ∧ w.cell? ⟨g, n * 5 + 1, none⟩ = some b ∧ w.cell? ⟨g, n * 5 + 2, none⟩ = some c ∧ w.cell? ⟨g, n * 5 + 3, none⟩ = some d ∧ w.cell? ⟨g, n * 5 + 4, none⟩ = some e ∧ ∀ j, w.frozen? ⟨g, j, none⟩ = false := by
  have hl : xs.length = n * 5 := by have := h.1; simp at this; omega
  have hk : ∀ k, k < 5 → w.cell? ⟨g, n * 5 + k, none⟩ = [a, b, c, d, e][k]? := fun k hk => by
    rw [h.cellAt _ (by omega), List.getElem?_append_right (by omega), hl, show n * 5 + k - n * 5 = k by omega]
  exact ⟨hk 0 (by omega), hk 1 (by omega), hk 2 (by omega), hk 3 (by omega), hk 4 (by omega), h.frozenAt⟩

theorem set5 {xs : List Value} {n : Nat} {a b c d e a' b' c' d' e' : Value} (hl : xs.length = n * 5) :
    (((((xs ++ [a, b, c, d, e]).set (n * 5) a').set (n * 5 + 1) b').set (n * 5 + 2) c').set (n * 5 + 3) d').set (n * 5 + 4) e' = xs ++ [a', b', c', d', e'] := by
  rw [← hl]
  simp
theorem gtr {a b c : World} {r : Option Nat} (h : a.grownBy b r) (k : b.grownBy c r) : a.grownBy c r :=
  ⟨k.os.trans h.os, k.tape.trans h.tape, k.output.trans h.output, Nat.le_trans h.size k.size, fun i hi hne => (k.block i (Nat.lt_of_lt_of_le hi h.size) hne).trans (h.block i hi hne)⟩
theorem fin5 {w1 : World} {n₀ gg cap n : Nat} {xs : List Value} {a b c d e a' b' c' d' e' : Value} (h : w1.ownsRow n₀ 35 5 (.slice (some ⟨gg, 0, none⟩) (n + 1) cap) (n + 1) (xs ++ [a, b, c, d, e])) :
    (((((w1.setCell ⟨gg, n * 5, none⟩ a').setCell ⟨gg, n * 5 + 1, none⟩ b').setCell ⟨gg, n * 5 + 2, none⟩ c').setCell ⟨gg, n * 5 + 3, none⟩ d').setCell ⟨gg, n * 5 + 4, none⟩ e').ownsRow n₀ 35 5 (.slice (some ⟨gg, 0, none⟩) (n + 1) cap) (n + 1) (xs ++ [a', b', c', d', e']) ∧
      w1.grownBy (((((w1.setCell ⟨gg, n * 5, none⟩ a').setCell ⟨gg, n * 5 + 1, none⟩ b').setCell ⟨gg, n * 5 + 2, none⟩ c').setCell ⟨gg, n * 5 + 3, none⟩ d').setCell ⟨gg, n * 5 + 4, none⟩ e') (some gg) := by
  have hl : xs.length = n * 5 := by have := h.1; simp at this; omega
  obtain ⟨h1, g1⟩ := h.stored (n * 5) a'
  obtain ⟨h2, g2⟩ := h1.stored (n * 5 + 1) b'
  obtain ⟨h3, g3⟩ := h2.stored (n * 5 + 2) c'
  obtain ⟨h4, g4⟩ := h3.stored (n * 5 + 3) d'
  obtain ⟨h5, g5⟩ := h4.stored (n * 5 + 4) e'
  rw [set5 hl] at h5
  exact ⟨h5, gtr (gtr (gtr (gtr g1 g2) g3) g4) g5⟩

/-- What may turn is block b and the blocks that a value owns. -/
structure Fr (b : Nat) (v : Option Nat) (w w' : World) : Prop where
  os : w'.os = w.os
  tape : w'.tape = w.tape
  output : w'.output = w.output
  size : w.heap.size ≤ w'.heap.size
  block : ∀ k, k < w.heap.size → k ≠ b → some k ≠ v → w'.heap[k]? = w.heap[k]?

section
variable {w w1 : World} {b o gg cap n₀ : Nat} {own : Option Nat} {t : TypeId} {cs : Array Value} {ps : List Pt} {p : Pt} {a' b' c' d' e' : Value}
theorem Fr.onto (h : Fr b own w w1) {w2 : World} (hg : w1.grownBy w2 (some gg)) (hk : ∀ k, k < w.heap.size → some k ≠ own → k ≠ gg) : Fr b own w w2 :=
  ⟨hg.os.trans h.os, hg.tape.trans h.tape, hg.output.trans h.output, Nat.le_trans h.size hg.size, fun k hlt h1 h2 => (hg.block k (Nat.lt_of_lt_of_le hlt h.size) (fun e => hk k hlt h2 (by simpa using e))).trans (h.block k hlt h1 h2)⟩
theorem Fr.set_ (h : Fr b own w w1) (u : Value) : Fr b own w (w1.setCell ⟨b, o, none⟩ u) :=
  ⟨h.os, h.tape, h.output, by simpa using h.size, fun k hlt h1 h2 => (Below.heap_setCell _ _ _ _ h1).trans (h.block k hlt h1 h2)⟩
theorem far5 (hB : Blk w1 b t cs) (hgb : b ≠ gg) {o1 o2 o3 o4 o5 : Nat} : Blk (((((w1.setCell ⟨gg, o1, none⟩ a').setCell ⟨gg, o2, none⟩ b').setCell ⟨gg, o3, none⟩ c').setCell ⟨gg, o4, none⟩ d').setCell ⟨gg, o5, none⟩ e') b t cs :=
  ((((hB.far hgb _).far hgb _).far hgb _).far hgb _).far hgb _
theorem pushA (hB : Blk w1 b t cs) (hr : w1.ownsRow n₀ 35 5 (.slice (some ⟨gg, 0, none⟩) (ps.length + 1) cap) (ps.length + 1) (pv ps ++ [a', b', c', d', e'])) (hF : Fr b own w w1) (hgb : b ≠ gg) (hk : ∀ k, k < w.heap.size → some k ≠ own → k ≠ gg) (hat : own = some gg ∨ w.heap.size ≤ gg) :
    ∃ a1 c1, (∀ k, Value.ownBlock (.slice a1 (ps.length + 1) c1) = some k → own = some k ∨ w.heap.size ≤ k) ∧ Blk ((((((w1.setCell ⟨gg, ps.length * 5, none⟩ (.int .i64 p.kind)).setCell ⟨gg, ps.length * 5 + 1, none⟩ (.string p.text)).setCell ⟨gg, ps.length * 5 + 2, none⟩ (.string p.op)).setCell ⟨gg, ps.length * 5 + 3, none⟩ (.slice p.wa p.wn p.wc)).setCell ⟨gg, ps.length * 5 + 4, none⟩ (.bool p.quoted)).setCell ⟨b, o, none⟩ (.slice (some ⟨gg, 0, none⟩) (ps.length + 1) cap)) b t (cs.setIfInBounds o (.slice a1 (ps.length + 1) c1)) ∧
      ((((((w1.setCell ⟨gg, ps.length * 5, none⟩ (.int .i64 p.kind)).setCell ⟨gg, ps.length * 5 + 1, none⟩ (.string p.text)).setCell ⟨gg, ps.length * 5 + 2, none⟩ (.string p.op)).setCell ⟨gg, ps.length * 5 + 3, none⟩ (.slice p.wa p.wn p.wc)).setCell ⟨gg, ps.length * 5 + 4, none⟩ (.bool p.quoted)).setCell ⟨b, o, none⟩ (.slice (some ⟨gg, 0, none⟩) (ps.length + 1) cap)).ownsRow n₀ 35 5 (.slice a1 (ps.length + 1) c1) (ps.length + 1) (pv (ps ++ [p])) ∧
      Fr b own w ((((((w1.setCell ⟨gg, ps.length * 5, none⟩ (.int .i64 p.kind)).setCell ⟨gg, ps.length * 5 + 1, none⟩ (.string p.text)).setCell ⟨gg, ps.length * 5 + 2, none⟩ (.string p.op)).setCell ⟨gg, ps.length * 5 + 3, none⟩ (.slice p.wa p.wn p.wc)).setCell ⟨gg, ps.length * 5 + 4, none⟩ (.bool p.quoted)).setCell ⟨b, o, none⟩ (.slice (some ⟨gg, 0, none⟩) (ps.length + 1) cap)) := by
  obtain ⟨h1, h2⟩ := fin5 (a' := .int .i64 p.kind) (b' := .string p.text) (c' := .string p.op) (d' := .slice p.wa p.wn p.wc) (e' := .bool p.quoted) hr
  refine ⟨some ⟨gg, 0, none⟩, cap, (fun k hk' => (show gg = k by simpa [Value.ownBlock] using hk') ▸ hat), (far5 hB hgb).set_ o _, ?_, (hF.onto h2 hk).set_ _⟩
  rw [pv_app]
  exact row_keep h1 (fun g hg => by
    obtain rfl : gg = g := by simpa [Value.ownBlock] using hg
    exact Below.heap_setCell _ _ _ _ (Ne.symm hgb))
theorem pushB (hB : Blk w1 b t cs) (hr : w1.ownsRow n₀ 35 5 (.slice (some ⟨gg, 0, none⟩) (ps.length + 1) cap) (ps.length + 1) (pv ps ++ [a', b', c', d', e'])) (hF : Fr b own w w1) (hgb : b ≠ gg) (hk : ∀ k, k < w.heap.size → some k ≠ own → k ≠ gg) (hat : own = some gg ∨ w.heap.size ≤ gg) :
    ∃ a1 c1, (∀ k, Value.ownBlock (.slice a1 (ps.length + 1) c1) = some k → own = some k ∨ w.heap.size ≤ k) ∧ Blk ((((((w1.setCell ⟨b, o, none⟩ (.slice (some ⟨gg, 0, none⟩) (ps.length + 1) cap)).setCell ⟨gg, ps.length * 5, none⟩ (.int .i64 p.kind)).setCell ⟨gg, ps.length * 5 + 1, none⟩ (.string p.text)).setCell ⟨gg, ps.length * 5 + 2, none⟩ (.string p.op)).setCell ⟨gg, ps.length * 5 + 3, none⟩ (.slice p.wa p.wn p.wc)).setCell ⟨gg, ps.length * 5 + 4, none⟩ (.bool p.quoted)) b t (cs.setIfInBounds o (.slice a1 (ps.length + 1) c1)) ∧
      ((((((w1.setCell ⟨b, o, none⟩ (.slice (some ⟨gg, 0, none⟩) (ps.length + 1) cap)).setCell ⟨gg, ps.length * 5, none⟩ (.int .i64 p.kind)).setCell ⟨gg, ps.length * 5 + 1, none⟩ (.string p.text)).setCell ⟨gg, ps.length * 5 + 2, none⟩ (.string p.op)).setCell ⟨gg, ps.length * 5 + 3, none⟩ (.slice p.wa p.wn p.wc)).setCell ⟨gg, ps.length * 5 + 4, none⟩ (.bool p.quoted)).ownsRow n₀ 35 5 (.slice a1 (ps.length + 1) c1) (ps.length + 1) (pv (ps ++ [p])) ∧
      Fr b own w ((((((w1.setCell ⟨b, o, none⟩ (.slice (some ⟨gg, 0, none⟩) (ps.length + 1) cap)).setCell ⟨gg, ps.length * 5, none⟩ (.int .i64 p.kind)).setCell ⟨gg, ps.length * 5 + 1, none⟩ (.string p.text)).setCell ⟨gg, ps.length * 5 + 2, none⟩ (.string p.op)).setCell ⟨gg, ps.length * 5 + 3, none⟩ (.slice p.wa p.wn p.wc)).setCell ⟨gg, ps.length * 5 + 4, none⟩ (.bool p.quoted)) := by
  have hr' := row_keep (w1 := w1.setCell ⟨b, o, none⟩ (.slice (some ⟨gg, 0, none⟩) (ps.length + 1) cap)) hr (fun g hg => by
    obtain rfl : gg = g := by simpa [Value.ownBlock] using hg
    exact Below.heap_setCell _ _ _ _ (Ne.symm hgb))
  obtain ⟨h1, h2⟩ := fin5 (a' := .int .i64 p.kind) (b' := .string p.text) (c' := .string p.op) (d' := .slice p.wa p.wn p.wc) (e' := .bool p.quoted) hr'
  refine ⟨some ⟨gg, 0, none⟩, cap, (fun k hk' => (show gg = k by simpa [Value.ownBlock] using hk') ▸ hat), far5 (hB.set_ o _) hgb, ?_, (hF.set_ _).onto h2 hk⟩
  rw [pv_app]
  exact h1
end

theorem info35 : (Try.prog.info? 35).map (fun i => (i.zero, i.size, i.bytes)) = some (some (.agg #[.int .i64 0, .string ⟨#[]⟩, .string ⟨#[]⟩, .slice none 0 0, .bool false]), 5, 72) := by kernel_rfl

set_option maxRecDepth 100000 in
set_option maxHeartbeats 6400000 in
theorem push_any (b o n₀ : Nat) (t : TypeId) (cs : Array Value) (a0 : Option Addr) (c0 : Nat) (ps : List Pt) (p : Pt) (w : World)
    (hB : Blk w b t cs) (hc : cs[o]? = some (.slice a0 ps.length c0)) (hrow : w.ownsRow n₀ 35 5 (.slice a0 ps.length c0) ps.length (pv ps)) (hlen : ps.length < 100000) (hte : t ≠ 35) (hn : n₀ ≤ w.heap.size) :
    Calls Try.prog 37 #[.pointer (some ⟨b, o, none⟩), .agg #[.int .i64 p.kind, .string p.text, .string p.op, (.slice p.wa p.wn p.wc), .bool p.quoted]] w fun e w' => e = .returned (.tuple #[]) ∧ ∃ a1 c1, (∀ k, Value.ownBlock (.slice a1 (ps.length + 1) c1) = some k → Value.ownBlock (.slice a0 ps.length c0) = some k ∨ w.heap.size ≤ k) ∧ Blk w' b t (cs.setIfInBounds o (.slice a1 (ps.length + 1) c1)) ∧ w'.ownsRow n₀ 35 5 (.slice a1 (ps.length + 1) c1) (ps.length + 1) (pv (ps ++ [p])) ∧ Fr b (Value.ownBlock (.slice a0 ps.length c0)) w w' := by
  obtain ⟨i0, hi0, hz0, hz1, hz2⟩ := info_parts info35
  have hoff := row_off hB hte hrow
  have hlt := hB.lt
  have hj0 : (0 : Int) ≤ (ps.length : Int) := Int.natCast_nonneg _
  have hj1 : (ps.length : Int) < (ps.length : Int) + 1 := by omega
  have hj2 : (ps.length : Int) < ((ps.length + 1 : Nat) : Int) := by omega
  have hoffX : some w.heap.size ≠ Value.ownBlock (.slice a0 ps.length c0) := fun e => by have := (hrow.lt _ e.symm).2; omega
  have k0 : w.cell? ⟨b, o, none⟩ = some (.slice a0 ps.length c0) := (hB.cell o).trans hc
  have f0 : w.frozen? ⟨b, o, none⟩ = false := hB.frozen o
  go_enter Try.func37, Try.ntmps37
  go_wp2_with fail
  have hB1 := hB.alloc (.cells #[.int .i64 p.kind, .string p.text, .string p.op, (.slice p.wa p.wn p.wc), .bool p.quoted] 35)
  have hX : Blk (w.alloc (.cells #[.int .i64 p.kind, .string p.text, .string p.op, (.slice p.wa p.wn p.wc), .bool p.quoted] 35)) w.heap.size 35 #[.int .i64 p.kind, .string p.text, .string p.op, (.slice p.wa p.wn p.wc), .bool p.quoted] := Blk.new w 35 _
  have hr1 := hrow.alloc (.cells #[.int .i64 p.kind, .string p.text, .string p.op, (.slice p.wa p.wn p.wc), .bool p.quoted] 35)
  have k1 := (hB1.cell o).trans hc
  have f1 : World.frozen? _ ⟨b, o, none⟩ = false := hB1.frozen o
  have x0 : (World.drew (w.alloc (.cells #[.int .i64 p.kind, .string p.text, .string p.op, (.slice p.wa p.wn p.wc), .bool p.quoted] 35))).cell? ⟨w.heap.size, 0, none⟩ = some (.int .i64 p.kind) := hX.cell 0
  have x1 : (World.drew (w.alloc (.cells #[.int .i64 p.kind, .string p.text, .string p.op, (.slice p.wa p.wn p.wc), .bool p.quoted] 35))).cell? ⟨w.heap.size, 1, none⟩ = some (.string p.text) := hX.cell 1
  have x2 : (World.drew (w.alloc (.cells #[.int .i64 p.kind, .string p.text, .string p.op, (.slice p.wa p.wn p.wc), .bool p.quoted] 35))).cell? ⟨w.heap.size, 2, none⟩ = some (.string p.op) := hX.cell 2
  have x3 : (World.drew (w.alloc (.cells #[.int .i64 p.kind, .string p.text, .string p.op, (.slice p.wa p.wn p.wc), .bool p.quoted] 35))).cell? ⟨w.heap.size, 3, none⟩ = some (Value.slice p.wa p.wn p.wc) := hX.cell 3
  have x4 : (World.drew (w.alloc (.cells #[.int .i64 p.kind, .string p.text, .string p.op, (.slice p.wa p.wn p.wc), .bool p.quoted] 35))).cell? ⟨w.heap.size, 4, none⟩ = some (.bool p.quoted) := hX.cell 4
  have hs1 : n₀ ≤ (w.alloc (.cells #[.int .i64 p.kind, .string p.text, .string p.op, (.slice p.wa p.wn p.wc), .bool p.quoted] 35)).heap.size := by simp; omega
  have hw1 : (w.alloc (.cells #[.int .i64 p.kind, .string p.text, .string p.op, (.slice p.wa p.wn p.wc), .bool p.quoted] 35)).heap.size = w.heap.size + 1 := by simp
  have hg1 : w.grownBy (w.alloc (.cells #[.int .i64 p.kind, .string p.text, .string p.op, (.slice p.wa p.wn p.wc), .bool p.quoted] 35)) none := ⟨rfl, rfl, rfl, by simp, fun k hk _ => Below.heap_alloc _ _ _ hk⟩
  generalize w.alloc (.cells #[.int .i64 p.kind, .string p.text, .string p.op, (.slice p.wa p.wn p.wc), .bool p.quoted] 35) = W at *
  have hX0 := Lib.hid hX
  have hB0 := Lib.hid hB1
  have hr0 := Lib.hid hr1
  clear hX hB1 hr1 hB hrow k0 f0
  have k1d : W.drew.cell? ⟨b, o, none⟩ = some (.slice a0 ps.length c0) := k1
  have k2 : (W.drew.alloc (.cells #[.int .i64 0, .string ⟨#[]⟩, .string ⟨#[]⟩, .slice none 0 0, .bool false] 35)).cell? ⟨b, o, none⟩ = some (.slice a0 ps.length c0) := cell_al (by simp; omega) k1d
  have hbx : b ≠ w.heap.size := by omega
  have hXl : w.heap.size < W.drew.heap.size := by show _ < W.heap.size; omega
  have hXl2 : ∀ o, w.heap.size < (W.drew.alloc o).heap.size := fun o => by rw [World.size_alloc]; omega
  have hbl2 : ∀ o, b < (W.drew.alloc o).heap.size := fun o => by rw [World.size_alloc]; omega
  have hW9 : ∀ o, (W.alloc o).drew.heap.size = w.heap.size + 2 := fun o => by show (W.alloc o).heap.size = _; rw [World.size_alloc]; omega
  have hbx' : w.heap.size ≠ b := Ne.symm hbx
  have z0 : (W.alloc (.cells #[.int .i64 0, .string ⟨#[]⟩, .string ⟨#[]⟩, .slice none 0 0, .bool false] 35)).drew.cell? ⟨w.heap.size, 0, none⟩ = some (.int .i64 p.kind) := cell_al hXl x0
  have z1 : (W.alloc (.cells #[.int .i64 0, .string ⟨#[]⟩, .string ⟨#[]⟩, .slice none 0 0, .bool false] 35)).drew.cell? ⟨w.heap.size, 1, none⟩ = some (.string p.text) := cell_al hXl x1
  have z2 : (W.alloc (.cells #[.int .i64 0, .string ⟨#[]⟩, .string ⟨#[]⟩, .slice none 0 0, .bool false] 35)).drew.cell? ⟨w.heap.size, 2, none⟩ = some (.string p.op) := cell_al hXl x2
  have z3 : (W.alloc (.cells #[.int .i64 0, .string ⟨#[]⟩, .string ⟨#[]⟩, .slice none 0 0, .bool false] 35)).drew.cell? ⟨w.heap.size, 3, none⟩ = some (Value.slice p.wa p.wn p.wc) := cell_al hXl x3
  have z4 : (W.alloc (.cells #[.int .i64 0, .string ⟨#[]⟩, .string ⟨#[]⟩, .slice none 0 0, .bool false] 35)).drew.cell? ⟨w.heap.size, 4, none⟩ = some (.bool p.quoted) := cell_al hXl x4
  have k2a : (W.alloc (.cells #[.int .i64 0, .string ⟨#[]⟩, .string ⟨#[]⟩, .slice none 0 0, .bool false] 35)).cell? ⟨b, o, none⟩ = some (.slice a0 ps.length c0) := k2
  refine wp_region_noPanic ?_
  refine wp_region_held_drew (S := (fun w' => w'.cell? ⟨w.heap.size, 0, none⟩ = some (.int .i64 p.kind) ∧ w'.cell? ⟨w.heap.size, 1, none⟩ = some (.string p.text) ∧ w'.cell? ⟨w.heap.size, 2, none⟩ = some (.string p.op) ∧ w'.cell? ⟨w.heap.size, 3, none⟩ = some (Value.slice p.wa p.wn p.wc) ∧ w'.cell? ⟨w.heap.size, 4, none⟩ = some (.bool p.quoted))) (by kernel_rfl) ⟨x0, x1, x2, x3, x4⟩ (fun hHeld => ?_)
  refine wpAnyH_take (i := 0) (v := ?_) rfl (by kernel_rfl) (by kernel_rfl) (by kernel_rfl) (fun _ _ _ h => h) (Or.inl ⟨by rfl, ?_⟩) hHeld ?_
  rotate_left
  · intro w hSw
    try dsimp only at hSw
    go_simp
    try with_reducible rfl
  simp only [Act.put, List.setIfInBounds_toArray]
  refine wpAnyH_take (i := 1) (v := ?_) rfl (by kernel_rfl) (by kernel_rfl) (by kernel_rfl) (fun _ _ _ h => h) (Or.inl ⟨by rfl, ?_⟩) hHeld ?_
  rotate_left
  · intro w hSw
    try dsimp only at hSw
    go_simp
    try with_reducible rfl
  simp only [Act.put]
  refine wpAnyH_take (i := 2) (v := ?_) rfl (by kernel_rfl) (by kernel_rfl) (by kernel_rfl) (fun _ _ _ h => h) (Or.inl ⟨by rfl, ?_⟩) hHeld ?_
  rotate_left
  · intro w hSw
    try dsimp only at hSw
    go_simp
    try with_reducible rfl
  simp only [Act.put]
  refine wpAnyH_take (i := 4) (v := ?_) rfl (by kernel_rfl) (by kernel_rfl) (by kernel_rfl) (fun _ _ _ h => h) (Or.inl ⟨by rfl, ?_⟩) hHeld ?_
  rotate_left
  · intro w hSw
    try dsimp only at hSw
    go_simp
    try with_reducible rfl
  simp only [Act.put]
  refine wpAnyH_ready (rs := [3, 6]) (by kernel_rfl) (by simp) ?_
  refine AllReadyH.cons rfl (fun K hK => ?_) (AllReadyH.cons rfl (fun K hK => ?_) AllReadyH.nil)
  · clear hHeld
    go_simp
    refine hK.out _ _ ⟨x0, x1, x2, x3, x4⟩ (fun hHeld => ?_)
    clear hK K
    try simp only [Act.put, List.setIfInBounds_toArray, List.set_cons_zero, List.set_cons_succ]
    refine wpAnyH_take (i := 5) (v := ?_) rfl (by kernel_rfl) (by kernel_rfl) (by kernel_rfl) (fun _ _ _ h => h) (Or.inl ⟨by rfl, ?_⟩) hHeld ?_
    rotate_left
    · intro w hSw
      try dsimp only at hSw
      go_simp
      try with_reducible rfl
    simp only [Act.put, List.setIfInBounds_toArray]
    refine wpAnyH_ready (rs := [6]) (by kernel_rfl) (by simp) ?_
    refine AllReadyH.cons rfl (fun K hK => ?_) AllReadyH.nil
    clear hHeld
    go_simp
    refine hK.out _ _ ⟨z0, z1, z2, z3, z4⟩ (fun hHeld => ?_)
    clear hK K
    try simp only [Act.put, List.setIfInBounds_toArray, List.set_cons_zero, List.set_cons_succ]
    refine wpAnyH_ready (rs := [7]) (by kernel_rfl) (by simp) ?_
    refine AllReadyH.cons (o := { dst := some 11, op := .call { callee := .builtin .append, args := #[.tmp 7, .tmp 10], argTypes := #[26, 26] }, type := 26, pos := "pile.go:9", after := #[{ on := 3, ground := .data }, { on := 6, ground := .data }, { on := 0, ground := .phase }, { on := 1, ground := .phase }, { on := 2, ground := .phase }, { on := 3, ground := .phase }, { on := 4, ground := .phase }, { on := 5, ground := .phase }, { on := 6, ground := .phase }], guard := none }) rfl (fun K hK => ?_) AllReadyH.nil
    clear hHeld
    refine step_append_lies _ (by rfl) _ _ _ (by rfl) n₀ 35 i0 _ 5 72 Try.underlying26 hi0 hz0 hz1 hz2 rfl (by omega) (.slice a0 ps.length c0) ps.length (pv ps) (by rfl) (hr0.out.alloc _)
            ⟨w.heap.size + 1, 0, none⟩ 1 1 [.int .i64 0, .string ⟨#[]⟩, .string ⟨#[]⟩, .slice none 0 0, .bool false] (by rfl) (by rfl) (by rw [← hw1]; exact World.news_of_block (cs := #[.int .i64 0, .string ⟨#[]⟩, .string ⟨#[]⟩, .slice none 0 0, .bool false]) (t := 35) (fr := (0, 0)) (heap_alloc_new W _)) (by simp [Value.oneCell'])
            (by omega) (by unfold maxLen; omega) (by omega) (by simp; omega) (w.heap.size + 2) (by simp [hw1]) ?_
    intro gg cap w1 hown1 hgrow hat hlt1
    obtain ⟨g0, g1, g2, g3, g4, g5⟩ := row_top hown1
    have y0 := (hgrow.cell_far _ (hXl2 _) hoffX).trans z0
    have y1 := (hgrow.cell_far _ (hXl2 _) hoffX).trans z1
    have y2 := (hgrow.cell_far _ (hXl2 _) hoffX).trans z2
    have y3 := (hgrow.cell_far _ (hXl2 _) hoffX).trans z3
    have y4 := (hgrow.cell_far _ (hXl2 _) hoffX).trans z4
    have hk9 : ∀ k, k < w.heap.size → some k ≠ Value.ownBlock (.slice a0 ps.length c0) → k ≠ gg := fun k hk hne => gg_ne hne hat (by omega)
    have hB9 : Blk w1 b t cs := (hgrow.block b (hbl2 _) hoff).trans ((Below.heap_alloc W.drew _ b (Nat.lt_trans (by omega) hXl)).trans hB0.out)
    have hF9 : Fr b (Value.ownBlock (.slice a0 ps.length c0)) w w1 := ⟨hgrow.os.trans hg1.os, hgrow.tape.trans hg1.tape, hgrow.output.trans hg1.output, Nat.le_trans (by rw [hW9]; omega) hgrow.size, fun k hk _ hne => (hgrow.block k (by rw [hW9]; omega) hne).trans ((Below.heap_alloc W.drew _ k (by show k < W.heap.size; omega)).trans (hg1.block k hk (by simp)))⟩
    have hgx : w.heap.size ≠ gg := gg_ne hoffX hat (by omega)
    have hgb : b ≠ gg := gg_ne hoff hat (by omega)
    have hgb' : gg ≠ b := Ne.symm hgb
    have kb : w1.cell? ⟨b, o, none⟩ = some (.slice a0 ps.length c0) := (hgrow.cell_far _ (hbl2 _) hoff).trans k2
    have fb : w1.frozen? ⟨b, o, none⟩ = false := (hgrow.frozen_far _ (hbl2 _) hoff).trans (fz_al (Nat.lt_trans (by omega) hXl) (show W.drew.frozen? _ = _ from f1))
    refine hK.out _ _ ⟨y0, y1, y2, y3, y4⟩ (fun hHeld => ?_)
    clear hK K
    try simp only [Act.put, List.setIfInBounds_toArray, List.set_cons_zero, List.set_cons_succ]
    refine wpAnyH_take (i := 8) (v := ?_) rfl (by kernel_rfl) (by kernel_rfl) (by kernel_rfl) (fun _ _ _ h => h) (Or.inl ⟨by rfl, ?_⟩) hHeld ?_
    rotate_left
    · intro w hSw
      try dsimp only at hSw
      go_simp
      try with_reducible rfl
    simp only [Act.put, List.setIfInBounds_toArray]
    refine wpAnyH_take (i := 10) (v := ?_) rfl (by kernel_rfl) (by kernel_rfl) (by kernel_rfl) (fun _ _ _ h => h) (Or.inl ⟨by rfl, ?_⟩) hHeld ?_
    rotate_left
    · intro w hSw
      try dsimp only at hSw
      go_simp
      try with_reducible rfl
    simp only [Act.put]
    refine wpAnyH_take (i := 11) (v := ?_) rfl (by kernel_rfl) (by kernel_rfl) (by kernel_rfl) (fun _ _ _ h => h) (Or.inl ⟨by rfl, ?_⟩) hHeld ?_
    rotate_left
    · intro w hSw
      try dsimp only at hSw
      go_simp
      try with_reducible rfl
    simp only [Act.put]
    refine wpAnyH_ready (rs := [9, 12]) (by kernel_rfl) (by simp) ?_
    refine AllReadyH.cons rfl (fun K hK => ?_) (AllReadyH.cons rfl (fun K hK => ?_) AllReadyH.nil)
    · clear hHeld
      go_simp
      refine hK.out _ _ ⟨five hgx y0, five hgx y1, five hgx y2, five hgx y3, five hgx y4⟩ (fun hHeld => ?_)
      clear hK K
      try simp only [Act.put, List.setIfInBounds_toArray, List.set_cons_zero, List.set_cons_succ]
      refine wpAnyH_ready (rs := [12]) (by kernel_rfl) (by simp) ?_
      refine AllReadyH.cons rfl (fun K hK => ?_) AllReadyH.nil
      clear hHeld
      go_simp
      refine hK.out _ _ ⟨one' hbx' (five hgx y0), one' hbx' (five hgx y1), one' hbx' (five hgx y2), one' hbx' (five hgx y3), one' hbx' (five hgx y4)⟩ (fun hHeld => ?_)
      clear hK K
      try simp only [Act.put, List.setIfInBounds_toArray, List.set_cons_zero, List.set_cons_succ]
      refine wpAnyH_done (by kernel_rfl) ?_ _
      refine NoPanic.normal ?_
      go_end0
      refine ⟨rfl, ?_⟩
      with_reducible exact pushA hB9 hown1 hF9 hgb hk9 (hat.imp id (fun e => by omega))
    · clear hHeld
      go_simp
      refine hK.out _ _ ⟨one' hbx' y0, one' hbx' y1, one' hbx' y2, one' hbx' y3, one' hbx' y4⟩ (fun hHeld => ?_)
      clear hK K
      try simp only [Act.put, List.setIfInBounds_toArray, List.set_cons_zero, List.set_cons_succ]
      refine wpAnyH_ready (rs := [9]) (by kernel_rfl) (by simp) ?_
      refine AllReadyH.cons rfl (fun K hK => ?_) AllReadyH.nil
      clear hHeld
      go_simp
      refine hK.out _ _ ⟨five hgx (one' hbx' y0), five hgx (one' hbx' y1), five hgx (one' hbx' y2), five hgx (one' hbx' y3), five hgx (one' hbx' y4)⟩ (fun hHeld => ?_)
      clear hK K
      try simp only [Act.put, List.setIfInBounds_toArray, List.set_cons_zero, List.set_cons_succ]
      refine wpAnyH_done (by kernel_rfl) ?_ _
      refine NoPanic.normal ?_
      go_end0
      refine ⟨rfl, ?_⟩
      with_reducible exact pushB hB9 hown1 hF9 hgb hk9 (hat.imp id (fun e => by omega))
  · clear hHeld
    go_simp
    refine hK.out _ _ ⟨z0, z1, z2, z3, z4⟩ (fun hHeld => ?_)
    clear hK K
    try simp only [Act.put, List.setIfInBounds_toArray, List.set_cons_zero, List.set_cons_succ]
    refine wpAnyH_ready (rs := [3]) (by kernel_rfl) (by simp) ?_
    refine AllReadyH.cons rfl (fun K hK => ?_) AllReadyH.nil
    clear hHeld
    go_simp
    refine hK.out _ _ ⟨z0, z1, z2, z3, z4⟩ (fun hHeld => ?_)
    clear hK K
    try simp only [Act.put, List.setIfInBounds_toArray, List.set_cons_zero, List.set_cons_succ]
    refine wpAnyH_take (i := 5) (v := ?_) rfl (by kernel_rfl) (by kernel_rfl) (by kernel_rfl) (fun _ _ _ h => h) (Or.inl ⟨by rfl, ?_⟩) hHeld ?_
    rotate_left
    · intro w hSw
      try dsimp only at hSw
      go_simp
      try with_reducible rfl
    simp only [Act.put, List.setIfInBounds_toArray]
    refine wpAnyH_ready (rs := [7]) (by kernel_rfl) (by simp) ?_
    refine AllReadyH.cons (o := { dst := some 11, op := .call { callee := .builtin .append, args := #[.tmp 7, .tmp 10], argTypes := #[26, 26] }, type := 26, pos := "pile.go:9", after := #[{ on := 3, ground := .data }, { on := 6, ground := .data }, { on := 0, ground := .phase }, { on := 1, ground := .phase }, { on := 2, ground := .phase }, { on := 3, ground := .phase }, { on := 4, ground := .phase }, { on := 5, ground := .phase }, { on := 6, ground := .phase }], guard := none }) rfl (fun K hK => ?_) AllReadyH.nil
    clear hHeld
    refine step_append_lies _ (by rfl) _ _ _ (by rfl) n₀ 35 i0 _ 5 72 Try.underlying26 hi0 hz0 hz1 hz2 rfl (by omega) (.slice a0 ps.length c0) ps.length (pv ps) (by rfl) (hr0.out.alloc _)
            ⟨w.heap.size + 1, 0, none⟩ 1 1 [.int .i64 0, .string ⟨#[]⟩, .string ⟨#[]⟩, .slice none 0 0, .bool false] (by rfl) (by rfl) (by rw [← hw1]; exact World.news_of_block (cs := #[.int .i64 0, .string ⟨#[]⟩, .string ⟨#[]⟩, .slice none 0 0, .bool false]) (t := 35) (fr := (0, 0)) (heap_alloc_new W _)) (by simp [Value.oneCell'])
            (by omega) (by unfold maxLen; omega) (by omega) (by simp; omega) (w.heap.size + 2) (by simp [hw1]) ?_
    intro gg cap w1 hown1 hgrow hat hlt1
    obtain ⟨g0, g1, g2, g3, g4, g5⟩ := row_top hown1
    have y0 := (hgrow.cell_far _ (hXl2 _) hoffX).trans z0
    have y1 := (hgrow.cell_far _ (hXl2 _) hoffX).trans z1
    have y2 := (hgrow.cell_far _ (hXl2 _) hoffX).trans z2
    have y3 := (hgrow.cell_far _ (hXl2 _) hoffX).trans z3
    have y4 := (hgrow.cell_far _ (hXl2 _) hoffX).trans z4
    have hk9 : ∀ k, k < w.heap.size → some k ≠ Value.ownBlock (.slice a0 ps.length c0) → k ≠ gg := fun k hk hne => gg_ne hne hat (by omega)
    have hB9 : Blk w1 b t cs := (hgrow.block b (hbl2 _) hoff).trans ((Below.heap_alloc W.drew _ b (Nat.lt_trans (by omega) hXl)).trans hB0.out)
    have hF9 : Fr b (Value.ownBlock (.slice a0 ps.length c0)) w w1 := ⟨hgrow.os.trans hg1.os, hgrow.tape.trans hg1.tape, hgrow.output.trans hg1.output, Nat.le_trans (by rw [hW9]; omega) hgrow.size, fun k hk _ hne => (hgrow.block k (by rw [hW9]; omega) hne).trans ((Below.heap_alloc W.drew _ k (by show k < W.heap.size; omega)).trans (hg1.block k hk (by simp)))⟩
    have hgx : w.heap.size ≠ gg := gg_ne hoffX hat (by omega)
    have hgb : b ≠ gg := gg_ne hoff hat (by omega)
    have hgb' : gg ≠ b := Ne.symm hgb
    have kb : w1.cell? ⟨b, o, none⟩ = some (.slice a0 ps.length c0) := (hgrow.cell_far _ (hbl2 _) hoff).trans k2
    have fb : w1.frozen? ⟨b, o, none⟩ = false := (hgrow.frozen_far _ (hbl2 _) hoff).trans (fz_al (Nat.lt_trans (by omega) hXl) (show W.drew.frozen? _ = _ from f1))
    refine hK.out _ _ ⟨y0, y1, y2, y3, y4⟩ (fun hHeld => ?_)
    clear hK K
    try simp only [Act.put]
    refine wpAnyH_take (i := 8) (v := ?_) rfl (by kernel_rfl) (by kernel_rfl) (by kernel_rfl) (fun _ _ _ h => h) (Or.inl ⟨by rfl, ?_⟩) hHeld ?_
    rotate_left
    · intro w hSw
      try dsimp only at hSw
      go_simp
      try with_reducible rfl
    simp only [Act.put]
    refine wpAnyH_take (i := 10) (v := ?_) rfl (by kernel_rfl) (by kernel_rfl) (by kernel_rfl) (fun _ _ _ h => h) (Or.inl ⟨by rfl, ?_⟩) hHeld ?_
    rotate_left
    · intro w hSw
      try dsimp only at hSw
      go_simp
      try with_reducible rfl
    simp only [Act.put]
    refine wpAnyH_take (i := 11) (v := ?_) rfl (by kernel_rfl) (by kernel_rfl) (by kernel_rfl) (fun _ _ _ h => h) (Or.inl ⟨by rfl, ?_⟩) hHeld ?_
    rotate_left
    · intro w hSw
      try dsimp only at hSw
      go_simp
      try with_reducible rfl
    simp only [Act.put]
    refine wpAnyH_ready (rs := [9, 12]) (by kernel_rfl) (by simp) ?_
    refine AllReadyH.cons rfl (fun K hK => ?_) (AllReadyH.cons rfl (fun K hK => ?_) AllReadyH.nil)
    · clear hHeld
      go_simp
      refine hK.out _ _ ⟨five hgx y0, five hgx y1, five hgx y2, five hgx y3, five hgx y4⟩ (fun hHeld => ?_)
      clear hK K
      try simp only [Act.put, List.setIfInBounds_toArray, List.set_cons_zero, List.set_cons_succ]
      refine wpAnyH_ready (rs := [12]) (by kernel_rfl) (by simp) ?_
      refine AllReadyH.cons rfl (fun K hK => ?_) AllReadyH.nil
      clear hHeld
      go_simp
      refine hK.out _ _ ⟨one' hbx' (five hgx y0), one' hbx' (five hgx y1), one' hbx' (five hgx y2), one' hbx' (five hgx y3), one' hbx' (five hgx y4)⟩ (fun hHeld => ?_)
      clear hK K
      try simp only [Act.put, List.setIfInBounds_toArray, List.set_cons_zero, List.set_cons_succ]
      refine wpAnyH_done (by kernel_rfl) ?_ _
      refine NoPanic.normal ?_
      go_end0
      refine ⟨rfl, ?_⟩
      with_reducible exact pushA hB9 hown1 hF9 hgb hk9 (hat.imp id (fun e => by omega))
    · clear hHeld
      go_simp
      refine hK.out _ _ ⟨one' hbx' y0, one' hbx' y1, one' hbx' y2, one' hbx' y3, one' hbx' y4⟩ (fun hHeld => ?_)
      clear hK K
      try simp only [Act.put, List.setIfInBounds_toArray, List.set_cons_zero, List.set_cons_succ]
      refine wpAnyH_ready (rs := [9]) (by kernel_rfl) (by simp) ?_
      refine AllReadyH.cons rfl (fun K hK => ?_) AllReadyH.nil
      clear hHeld
      go_simp
      refine hK.out _ _ ⟨five hgx (one' hbx' y0), five hgx (one' hbx' y1), five hgx (one' hbx' y2), five hgx (one' hbx' y3), five hgx (one' hbx' y4)⟩ (fun hHeld => ?_)
      clear hK K
      try simp only [Act.put, List.setIfInBounds_toArray, List.set_cons_zero, List.set_cons_succ]
      refine wpAnyH_done (by kernel_rfl) ?_ _
      refine NoPanic.normal ?_
      go_end0
      refine ⟨rfl, ?_⟩
      with_reducible exact pushB hB9 hown1 hF9 hgb hk9 (hat.imp id (fun e => by omega))
end Go.Proofs.Ytgpkhpheomaiaaa
