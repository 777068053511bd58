/- The worker in memory, whatever its maker: tokens, frames. No condition. -/
import Derived.Test.YtjbmpockoicgmaaGreatArE
namespace Go.Proofs.YtjbmpockoicgmaaGreat
open Go.RowKit Go.Shelf Go.PlainAid
set_option linter.unusedVariables false
set_option linter.unusedSimpArgs false
attribute [local go_sem] Oper.semAt_some

/-- What a call leaves: the blocks of S may have turned, new ones are made; S' are then those that may turn. -/
structure Fr (S : Nat → Prop) (W : World) (S' : Nat → Prop) (W' : World) : Prop where
  os : W'.os = W.os
  tape : W'.tape = W.tape
  output : W'.output = W.output
  size : W.heap.size ≤ W'.heap.size
  block : ∀ g, g < W.heap.size → ¬ S g → W'.heap[g]? = W.heap[g]?
  new : ∀ g, S' g → S g ∨ W.heap.size ≤ g
theorem Fr.refl (S : Nat → Prop) (W : World) : Fr S W S W := ⟨rfl, rfl, rfl, Nat.le_refl _, fun _ _ _ => rfl, fun _ h => .inl h⟩
theorem Fr.trans {S S1 S2 : Nat → Prop} {A B C : World} (h : Fr S A S1 B) (k : Fr S1 B S2 C) : Fr S A S2 C :=
  ⟨k.os.trans h.os, k.tape.trans h.tape, k.output.trans h.output, Nat.le_trans h.size k.size,
   fun g h1 h2 => (k.block g (Nat.lt_of_lt_of_le h1 h.size) (fun e => (h.new g e).elim h2 (fun e => by omega))).trans (h.block g h1 h2),
   fun g hg => (k.new g hg).elim (fun e => h.new g e) (fun e => .inr (Nat.le_trans h.size e))⟩
theorem Fr.of_below {S : Nat → Prop} {A B : World} (h : Below A.heap.size A B) : Fr S A S B := ⟨h.os, h.tape, h.output, h.size, fun g h1 _ => h.block g h1, fun _ h => .inl h⟩
theorem Fr.blk {S S' : Nat → Prop} {A B : World} (h : Fr S A S' B) {g : Nat} {t : TypeId} {cs : Array Value} (hb : Blk A g t cs) (hg : ¬ S g) : Blk B g t cs := (h.block g hb.lt hg).trans hb
theorem Fr.below {S S' : Nat → Prop} {A B : World} (h : Fr S A S' B) {n : Nat} (hn : ∀ g, S g → n ≤ g) (hs : n ≤ A.heap.size) : Below n A B := ⟨h.os, h.tape, h.output, h.size, fun g hg => h.block g (by omega) (fun e => by have := hn g e; omega)⟩
/-- One cell is stored into a block that may turn. -/
theorem Fr.set_ {S : Nat → Prop} (W : World) {b i : Nat} (hb : S b) (u : Value) : Fr S W S (W.setCell ⟨b, i, none⟩ u) :=
  ⟨rfl, rfl, rfl, by simp, fun g h1 h2 => Below.heap_setCell _ _ _ _ (fun e => h2 (by rw [show g = b from e]; exact hb)), fun _ h => .inl h⟩

structure TkC (W : World) (G o : Nat) (t : Tk) : Prop where
  kind : W.cell? ⟨G, o, none⟩ = some (.int .i64 t.kind)
  text : W.cell? ⟨G, o + 1, none⟩ = some (.string t.text)
  num : W.cell? ⟨G, o + 2, none⟩ = some (.int .i64 t.num)
/-- The tokens that a slice reads as. -/
def TkAt (G : Nat) (W : World) (a : Option Addr) (c : Nat) (l : List Tk) : Prop := l.length ≤ c ∧ l.length ≤ 200000 ∧ (∀ t ∈ l, t.text.size ≤ 100000 ∧ -9223372036854775808 ≤ t.num ∧ t.num ≤ 9223372036854775807) ∧ (l ≠ [] → ∃ o, a = some ⟨G, o, none⟩ ∧ ∀ i t, l[i]? = some t → TkC W G (o + i * 3) t)
theorem cell_of_blk {W W' : World} {G : Nat} (h : W'.heap[G]? = W.heap[G]?) (o : Nat) : W'.cell? ⟨G, o, none⟩ = W.cell? ⟨G, o, none⟩ := World.cell?_of_block (a := ⟨G, o, none⟩) h
theorem TkC.keep {W W' : World} {G o : Nat} {t : Tk} (h : TkC W G o t) (e : W'.heap[G]? = W.heap[G]?) : TkC W' G o t :=
  ⟨(cell_of_blk e _).trans h.kind, (cell_of_blk e _).trans h.text, (cell_of_blk e _).trans h.num⟩
theorem TkAt.keep {G : Nat} {W W' : World} {a : Option Addr} {c : Nat} {l : List Tk} (h : TkAt G W a c l) (e : W'.heap[G]? = W.heap[G]?) : TkAt G W' a c l :=
  ⟨h.1, h.2.1, h.2.2.1, fun hl => by obtain ⟨o, h1, h2⟩ := h.2.2.2 hl; exact ⟨o, h1, fun i t ht => (h2 i t ht).keep e⟩⟩
theorem TkAt.nil (G : Nat) (W : World) (a : Option Addr) (c : Nat) : TkAt G W a c [] := ⟨Nat.zero_le _, Nat.zero_le _, fun t h => by simp at h, fun h => absurd rfl h⟩
theorem TkAt.head {G : Nat} {W : World} {a : Option Addr} {c : Nat} {t : Tk} {l : List Tk} (h : TkAt G W a c (t :: l)) : ∃ o, a = some ⟨G, o, none⟩ ∧ TkC W G o t ∧ (∀ c', l.length ≤ c' → TkAt G W (some ⟨G, o + 3, none⟩) c' l) := by
  obtain ⟨h1, h2, h3, h4⟩ := h
  obtain ⟨o, e, hc⟩ := h4 (by simp)
  refine ⟨o, e, by have := hc 0 t rfl; simpa using this, fun c' hc' => ⟨hc', by simp at h2; omega, fun u hu => h3 u (List.mem_cons_of_mem _ hu), fun _ => ⟨o + 3, rfl, fun i u hi => ?_⟩⟩⟩
  have := hc (i + 1) u (by simpa using hi)
  rwa [show o + (i + 1) * 3 = o + 3 + i * 3 by omega] at this
theorem TkAt.tok {G : Nat} {W : World} {a : Option Addr} {c : Nat} {l : List Tk} (h : TkAt G W a c l) {i : Nat} {t : Tk} (ht : l[i]? = some t) : ∃ o, a = some ⟨G, o, none⟩ ∧ TkC W G (o + i * 3) t := by
  obtain ⟨o, e, hc⟩ := h.2.2.2 (fun e => by rw [e] at ht; simp at ht)
  exact ⟨o, e, hc i t ht⟩
end Go.Proofs.YtjbmpockoicgmaaGreat
