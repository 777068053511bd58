/- Small laws for the texts over lex. No condition. -/
import Derived.Test.YtnhbcmhinhncfaaGreatDoorShelf
import Derived.WalkKit
import Derived.WalkSpells
import Derived.WalkLawsBesides
import Derived.Deep.Draws
import Derived.WalkSmall
import Derived.Deep.QuietTactic
import Derived.BigQuiet
import Derived.Lib.Hide
import Derived.Deep.DeepCutAuto
import Derived.Deep.CutBlock
import Derived.PlainAid
import Derived.Lib.Strings
import Derived.Lib.IndexLaws
import Derived.Lib.IndexBytes
import Derived.Below
import Derived.RangeFuncRecord
import Derived.OwnWalk
import Derived.Laws.OwnMore
import Derived.Deep.RegionHeld3
import Derived.Deep.AppendLies
import Derived.KernelRfl
namespace Go.Proofs.YtnhbcmhinhncfaaGreatDoor
open Go.RowKit Go.PlainAid
attribute [local go_sem] Oper.semAt_some

theorem ret_bool {a b : Bool} (h : a = b) : Ending.returned (.bool a) = .returned (.bool b) := by rw [h]
theorem toList_inj {a b : ByteArray} (h : a.toList = b.toList) : a = b := by
  rw [Lib.toList_data, Lib.toList_data] at h
  cases a with
  | mk yd => cases b with
    | mk xd => exact congrArg ByteArray.mk (Array.toList_inj.1 h)
theorem size0 {s : ByteArray} (h : s.size = 0) : s = ⟨#[]⟩ := by
  obtain ⟨⟨l⟩⟩ := s
  cases l with
  | nil => rfl
  | cons a l => simp [ByteArray.size] at h

theorem str_ne {s : ByteArray} (h : s.size ≠ 0) : (!s.toList.isEmpty) = true := by
  rw [Lib.toList_data]
  cases e : s.data.toList with
  | nil =>
    have : s.data.toList.length = 0 := by rw [e]; rfl
    rw [← Lib.size_eq] at this
    exact absurd this h
  | cons a l => rfl

theorem info_parts {t : TypeId} {z : Value} {s b : Nat} (h : (Tryz.prog.info? t).map (fun i => (i.zero, i.size, i.bytes)) = some (some z, s, b)) : ∃ i, Tryz.prog.info? t = some i ∧ i.zero = some z ∧ i.size = s ∧ i.bytes = b := by
  cases hi : Tryz.prog.info? t with
  | none => rw [hi] at h; cases h
  | some i => rw [hi] at h; simp at h; exact ⟨i, rfl, h.1, h.2.1, h.2.2⟩
/-- A block known whole. -/
def Blk (W : World) (g : Nat) (t : TypeId) (cs : Array Value) : Prop := W.heap[g]? = some (.cells cs t (0, 0))
theorem Blk.lt {W : World} {g : Nat} {t : TypeId} {cs : Array Value} (h : Blk W g t cs) : g < W.heap.size := (Array.getElem?_eq_some_iff.1 h).1
theorem Blk.cell {W : World} {g : Nat} {t : TypeId} {cs : Array Value} (h : Blk W g t cs) (i : Nat) : W.cell? ⟨g, i, none⟩ = cs[i]? := by
  unfold Blk at h
  simp [World.cell?, h]
theorem Blk.frozen {W : World} {g : Nat} {t : TypeId} {cs : Array Value} (h : Blk W g t cs) (i : Nat) : W.frozen? ⟨g, i, none⟩ = false := by
  unfold Blk at h
  simp [World.frozen?, h]
theorem Blk.shape {W : World} {g : Nat} {t : TypeId} {cs : Array Value} (h : Blk W g t cs) : W.shape? g = some (t, cs.size) := by
  unfold Blk at h
  simp [World.shape?, h]
theorem Blk.new (w : World) (t : TypeId) (cs : Array Value) : Blk (w.alloc (.cells cs t)) w.heap.size t cs := World.alloc_heap_new w _
theorem Blk.alloc {W : World} {g : Nat} {t : TypeId} {cs : Array Value} (h : Blk W g t cs) (o : Obj) : Blk (W.alloc o) g t cs := (Below.heap_alloc W o g h.lt).trans h
theorem Blk.set_ {W : World} {g : Nat} {t : TypeId} {cs : Array Value} (h : Blk W g t cs) (i : Nat) (u : Value) : Blk (W.setCell ⟨g, i, none⟩ u) g t (cs.setIfInBounds i u) := by
  unfold Blk at h ⊢
  simp [World.setCell, Array.getElem?_modify, h]
theorem Blk.far {W : World} {g : Nat} {t : TypeId} {cs : Array Value} (h : Blk W g t cs) {p : Addr} (hp : g ≠ p.block) (u : Value) : Blk (W.setCell p u) g t cs := (Below.heap_setCell W p u g hp).trans h
theorem row_keep {w w1 : World} {base : Nat} {e : TypeId} {size : Nat} {v : Value} {n : Nat} {xs : List Value} (h : w.ownsRow base e size v n xs) (hb : ∀ g, v.ownBlock = some g → w1.heap[g]? = w.heap[g]?) : w1.ownsRow base e size v n xs := by
  refine ⟨h.1, ?_⟩
  rcases h.2 with h | ⟨g, cap, cur, e1, e2, e3, e4⟩
  · exact .inl h
  · refine .inr ⟨g, cap, cur, e1, e2, ?_, e4⟩
    rw [hb g (by rw [e1]; rfl)]; exact e3
theorem row_lt {w : World} {base : Nat} {e : TypeId} {size : Nat} {v : Value} {n : Nat} {xs : List Value} (h : w.ownsRow base e size v n xs) {g : Nat} (hg : v.ownBlock = some g) : g < w.heap.size := (h.lt g hg).2
theorem row_beneath {w w1 : World} {base : Nat} {e : TypeId} {size : Nat} {v : Value} {n : Nat} {xs : List Value} (h : w.ownsRow base e size v n xs) (hb : Below w.heap.size w w1) : w1.ownsRow base e size v n xs :=
  row_keep h (fun g hg => hb.block g (row_lt h hg))
theorem blk_beneath {w w1 : World} {g : Nat} {t : TypeId} {cs : Array Value} (h : Blk w g t cs) (hb : Below w.heap.size w w1) : Blk w1 g t cs := (hb.block g h.lt).trans h

theorem row_off {W : World} {g : Nat} {t e : TypeId} {cs : Array Value} {base size n : Nat} {v : Value} {xs : List Value} (hB : Blk W g t cs) (hte : t ≠ e) (h : W.ownsRow base e size v n xs) : some g ≠ v.ownBlock := by
  rcases h.2 with ⟨rfl, _⟩ | ⟨g1, cap, cur, rfl, _, hb, _⟩
  · simp [Value.ownBlock]
  · intro e
    obtain rfl : g = g1 := by simpa [Value.ownBlock] using e
    have := hB.symm.trans hb
    simp at this
    exact hte this.2

theorem cell_al {W : World} {a : Addr} {o : Obj} {v : Option Value} (hl : a.block < W.heap.size) (h : W.cell? a = v) : (W.alloc o).cell? a = v := (World.cell?_of_block (Below.heap_alloc W o a.block hl)).trans h
theorem fz_al {W : World} {a : Addr} {o : Obj} {v : Bool} (hl : a.block < W.heap.size) (h : W.frozen? a = v) : (W.alloc o).frozen? a = v := (World.frozen?_of_block (Below.heap_alloc W o a.block hl)).trans h

theorem cell_st {W : World} {a p : Addr} {u : Value} {v : Option Value} (hl : a.block ≠ p.block) (h : W.cell? a = v) : (W.setCell p u).cell? a = v := (World.cell?_of_block (Below.heap_setCell W p u a.block hl)).trans h
theorem one' {W : World} {k o g o1 : Nat} {u : Value} {v : Option Value} (hl : k ≠ g) (h : W.cell? ⟨k, o, none⟩ = v) : (W.setCell ⟨g, o1, none⟩ u).cell? ⟨k, o, none⟩ = v := cell_st hl h
theorem five {W : World} {k o g o1 o2 o3 o4 o5 : Nat} {u1 u2 u3 u4 u5 : Value} {v : Option Value} (hl : k ≠ g) (h : W.cell? ⟨k, o, none⟩ = v) :
    (((((W.setCell ⟨g, o1, none⟩ u1).setCell ⟨g, o2, none⟩ u2).setCell ⟨g, o3, none⟩ u3).setCell ⟨g, o4, none⟩ u4).setCell ⟨g, o5, none⟩ u5).cell? ⟨k, o, none⟩ = v :=
  one' hl (one' hl (one' hl (one' hl (one' hl h))))
theorem gg_ne {k gg H : Nat} {r : Option Nat} (h : some k ≠ r) (hat : r = some gg ∨ gg = H) (hk : k ≠ H) : k ≠ gg := by
  rintro rfl
  rcases hat with e | e
  · exact h e.symm
  · exact hk e

theorem set5 {xs : List Value} {n : Nat} {a b c d e a' b' c' d' e' : Value} (hl : xs.length = n * 5) :
    (((((xs ++ [a, b, c, d, e]).set (n * 5) a').set (n * 5 + 1) b').set (n * 5 + 2) c').set (n * 5 + 3) d').set (n * 5 + 4) e' = xs ++ [a', b', c', d', e'] := by
  rw [← hl]
  simp
theorem gtr {a b c : World} {r : Option Nat} (h : a.grownBy b r) (k : b.grownBy c r) : a.grownBy c r :=
  ⟨k.os.trans h.os, k.tape.trans h.tape, k.output.trans h.output, Nat.le_trans h.size k.size, fun i hi hne => (k.block i (Nat.lt_of_lt_of_le hi h.size) hne).trans (h.block i hi hne)⟩
/-- What may turn is block b and the blocks that a value owns. -/
structure Fr (b : Nat) (v : Option Nat) (w w' : World) : Prop where
  os : w'.os = w.os
  tape : w'.tape = w.tape
  output : w'.output = w.output
  size : w.heap.size ≤ w'.heap.size
  block : ∀ k, k < w.heap.size → k ≠ b → some k ≠ v → w'.heap[k]? = w.heap[k]?

section
variable {w w1 : World} {b o gg cap n₀ : Nat} {own : Option Nat} {t : TypeId} {cs : Array Value} {a' b' c' d' e' : Value}
theorem Fr.onto (h : Fr b own w w1) {w2 : World} (hg : w1.grownBy w2 (some gg)) (hk : ∀ k, k < w.heap.size → some k ≠ own → k ≠ gg) : Fr b own w w2 :=
  ⟨hg.os.trans h.os, hg.tape.trans h.tape, hg.output.trans h.output, Nat.le_trans h.size hg.size, fun k hlt h1 h2 => (hg.block k (Nat.lt_of_lt_of_le hlt h.size) (fun e => hk k hlt h2 (by simpa using e))).trans (h.block k hlt h1 h2)⟩
theorem Fr.set_ (h : Fr b own w w1) (u : Value) : Fr b own w (w1.setCell ⟨b, o, none⟩ u) :=
  ⟨h.os, h.tape, h.output, by simpa using h.size, fun k hlt h1 h2 => (Below.heap_setCell _ _ _ _ h1).trans (h.block k hlt h1 h2)⟩
theorem far5 (hB : Blk w1 b t cs) (hgb : b ≠ gg) {o1 o2 o3 o4 o5 : Nat} : Blk (((((w1.setCell ⟨gg, o1, none⟩ a').setCell ⟨gg, o2, none⟩ b').setCell ⟨gg, o3, none⟩ c').setCell ⟨gg, o4, none⟩ d').setCell ⟨gg, o5, none⟩ e') b t cs :=
  ((((hB.far hgb _).far hgb _).far hgb _).far hgb _).far hgb _
end
end Go.Proofs.YtnhbcmhinhncfaaGreatDoor
