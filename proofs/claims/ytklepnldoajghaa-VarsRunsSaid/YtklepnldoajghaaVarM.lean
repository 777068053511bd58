/- Variables plainly, rows of elements of several cells, and what copies and stores do to them. No walk; no condition. -/
import Derived.Test.YtklepnldoajghaaProg
import Derived.WalkKit
import Derived.WalkSpells
import Derived.WalkLawsBesides
import Derived.Deep.Draws
import Derived.WalkSmall
import Derived.Laws.CopyRow
import Derived.Laws.AppendOwn
import Derived.Below
import Derived.RangeFuncNested
import Derived.Deep.RegionHeld3
import Derived.Deep.AppendLies
import Derived.StillTactics
import Derived.OwnWalk
import Derived.Laws.Pointers
import Derived.BigQuiet
import Derived.BigRegion
import Derived.RegionTactic
import Derived.Lib.Hide
namespace Go.Proofs.Ytklepnldoajghaa
open Go.RowKit

/-- A copy of elements of k cells each: the cells are laid over what stands. -/
theorem run_copy_rows {P : Program} (w : World) (dT sT ty elem : TypeId) (g o dLen dCap : Nat) (a : Addr) (sLen sCap : Nat) (cur : Array Value) (t : TypeId) (cs : List Value) (k m : Nat)
    (hu : P.underlying dT = some (.slice elem)) (hs : (P.info? elem).map (·.size) = some k)
    (hg : w.heap[g]? = some (.cells cur t (0, 0))) (hm : Nat.min sLen dLen = m) (hn : cs.length = m * k)
    (hsrc : ∀ j v, cs[j]? = some v → w.cell? (a.add j) = some v) (hfit : o + cs.length ≤ cur.size) (h1 : ∀ v ∈ cs, v.oneCell' = true) :
    (Builtin.copy_ #[dT, sT] ty #[.slice (some ⟨g, o, none⟩) dLen dCap, .slice (some a) sLen sCap]).run P w =
      .ok (goInt m) (w.setRow g (cur.toList.take o ++ cs ++ cur.toList.drop (o + cs.length)).toArray) := by
  have hl := run_loadCells_list (P := P) w a cs hsrc
  have hst := run_storeCells_at P g o t cs 0 cur w hg (by simpa using hfit) h1
  cases hq : P.info? elem with
  | none => simp [hq] at hs
  | some i =>
    have hi : i.size = k := by simpa [hq] using hs
    simp [Builtin.copy_, run_underlying hu, Builtin.lenOf, Builtin.firstCells, sizeOf, typeInfo, hq, hi, hm, ← hn, hl, hst]

/-- A block known whole. -/
def Blk (W : World) (g : Nat) (t : TypeId) (cs : Array Value) : Prop := W.heap[g]? = some (.cells cs t (0, 0))
theorem Blk.lt {W : World} {g : Nat} {t : TypeId} {cs : Array Value} (h : Blk W g t cs) : g < W.heap.size := (Array.getElem?_eq_some_iff.1 h).1
theorem Blk.cell {W : World} {g : Nat} {t : TypeId} {cs : Array Value} (h : Blk W g t cs) (i : Nat) : W.cell? ⟨g, i, none⟩ = cs[i]? := by
  unfold Blk at h
  simp [World.cell?, h]
theorem Blk.frozen {W : World} {g : Nat} {t : TypeId} {cs : Array Value} (h : Blk W g t cs) (i : Nat) : W.frozen? ⟨g, i, none⟩ = false := by
  unfold Blk at h
  simp [World.frozen?, h]
theorem Blk.shape {W : World} {g : Nat} {t : TypeId} {cs : Array Value} (h : Blk W g t cs) : W.shape? g = some (t, cs.size) := by
  unfold Blk at h
  simp [World.shape?, h]
theorem Blk.new (w : World) (t : TypeId) (cs : Array Value) : Blk (w.alloc (.cells cs t)) w.heap.size t cs := World.alloc_heap_new w _
theorem Blk.alloc {W : World} {g : Nat} {t : TypeId} {cs : Array Value} (h : Blk W g t cs) (o : Obj) : Blk (W.alloc o) g t cs := (Below.heap_alloc W o g h.lt).trans h
theorem Blk.set_ {W : World} {g : Nat} {t : TypeId} {cs : Array Value} (h : Blk W g t cs) (i : Nat) (u : Value) : Blk (W.setCell ⟨g, i, none⟩ u) g t (cs.setIfInBounds i u) := by
  unfold Blk at h ⊢
  simp [World.setCell, Array.getElem?_modify, h]
theorem Blk.far {W : World} {g : Nat} {t : TypeId} {cs : Array Value} (h : Blk W g t cs) {p : Addr} (hp : g ≠ p.block) (u : Value) : Blk (W.setCell p u) g t cs := (Below.heap_setCell W p u g hp).trans h
theorem Blk.row {W : World} {g : Nat} {t : TypeId} {cs : Array Value} (h : Blk W g t cs) (cs' : Array Value) : Blk (W.setRow g cs') g t cs' := setRow_heap W g cs cs' t _ h
theorem Blk.rowFar {W : World} {g g' : Nat} {t : TypeId} {cs : Array Value} (h : Blk W g t cs) (hp : g ≠ g') (cs' : Array Value) : Blk (W.setRow g' cs') g t cs := (setRow_other W g' g cs' hp).trans h
theorem Blk.mem {W : World} {g : Nat} {t : TypeId} {cs : Array Value} (h : Blk W g t cs) {l : List Value} (i : Nat) (hl : ∀ j v, l[j]? = some v → cs[i + j]? = some v) (j : Nat) (v : Value) (hj : l[j]? = some v) : W.cell? ((⟨g, i, none⟩ : Addr).add j) = some v := by
  rw [Addr.add_lit, h.cell]
  exact hl j v hj

/-- A row of elements that are cells each. -/
def flat {α : Type} (enc : α → List Value) (l : List α) : List Value := l.flatMap enc
theorem flat_len {α : Type} {enc : α → List Value} {k : Nat} (hk : ∀ x, (enc x).length = k) (l : List α) : (flat enc l).length = l.length * k := by
  induction l with
  | nil => simp [flat]
  | cons x l ih =>
    have e : flat enc (x :: l) = enc x ++ flat enc l := List.flatMap_cons
    rw [e, List.length_append, hk, ih, List.length_cons, Nat.succ_mul, Nat.add_comm]
theorem flat_append {α : Type} (enc : α → List Value) (a b : List α) : flat enc (a ++ b) = flat enc a ++ flat enc b := List.flatMap_append
theorem flat_take {α : Type} {enc : α → List Value} {k : Nat} (hk : ∀ x, (enc x).length = k) (l : List α) (i : Nat) (hi : i ≤ l.length) : (flat enc l).take (i * k) = flat enc (l.take i) := by
  have e : flat enc l = flat enc (l.take i) ++ flat enc (l.drop i) := by rw [← flat_append, List.take_append_drop]
  have e2 : (flat enc (l.take i)).length = i * k := by rw [flat_len hk, List.length_take, Nat.min_eq_left hi]
  rw [e, ← e2, List.take_left']
  rfl
theorem flat_drop {α : Type} {enc : α → List Value} {k : Nat} (hk : ∀ x, (enc x).length = k) (l : List α) (i : Nat) (hi : i ≤ l.length) : (flat enc l).drop (i * k) = flat enc (l.drop i) := by
  have e : flat enc l = flat enc (l.take i) ++ flat enc (l.drop i) := by rw [← flat_append, List.take_append_drop]
  have e2 : (flat enc (l.take i)).length = i * k := by rw [flat_len hk, List.length_take, Nat.min_eq_left hi]
  rw [e, ← e2, List.drop_left']
  rfl
/-- An element goes in at a place. -/
def ins {α : Type} (l : List α) (i : Nat) (x : α) : List α := l.take i ++ x :: l.drop i
theorem ins_len {α : Type} (l : List α) (i : Nat) (x : α) (hi : i ≤ l.length) : (ins l i x).length = l.length + 1 := by simp [ins]; omega
theorem flat_ins {α : Type} (enc : α → List Value) (l : List α) (i : Nat) (x : α) : flat enc (ins l i x) = flat enc (l.take i) ++ enc x ++ flat enc (l.drop i) := by
  simp [flat, ins]

/-- The two copies of an insertion with room. -/
theorem room_list (A D x r : List Value) (k : Nat) (hx : x.length = k) (hr : k ≤ r.length) :
    (((A ++ D ++ r).take (A.length + k) ++ D ++ (A ++ D ++ r).drop (A.length + k + D.length)).take A.length ++ x ++ ((A ++ D ++ r).take (A.length + k) ++ D ++ (A ++ D ++ r).drop (A.length + k + D.length)).drop (A.length + x.length)) = A ++ x ++ D ++ r.drop k := by
  have e1 : (A ++ D ++ r).drop (A.length + k + D.length) = r.drop k := by
    rw [List.drop_append, List.drop_eq_nil_of_le (by rw [List.length_append]; omega), List.nil_append, List.length_append, show A.length + k + D.length - (A.length + D.length) = k by omega]
  have e2 : ((A ++ D ++ r).take (A.length + k)).length = A.length + k := by rw [List.length_take, List.length_append, List.length_append]; omega
  have e3 : ((A ++ D ++ r).take (A.length + k) ++ D ++ r.drop k).take A.length = A := by
    rw [List.append_assoc, List.take_append_of_le_length (by omega), List.take_take, Nat.min_eq_left (by omega), List.append_assoc, List.take_left']
    rfl
  have e4 : ((A ++ D ++ r).take (A.length + k) ++ D ++ r.drop k).drop (A.length + x.length) = D ++ r.drop k := by
    rw [List.append_assoc, hx]
    exact List.drop_left' e2
  rw [e1, e3, e4]
  simp [List.append_assoc]
/-- The two copies of an insertion into a new row. -/
theorem grow_list (A D x y z : List Value) (k : Nat) (hx : x.length = k) (hz : y.length = k + D.length) :
    (((A ++ y ++ z).take A.length ++ x ++ (A ++ y ++ z).drop (A.length + x.length)).take (A.length + k) ++ D ++ ((A ++ y ++ z).take A.length ++ x ++ (A ++ y ++ z).drop (A.length + x.length)).drop (A.length + k + D.length)) = A ++ x ++ D ++ z := by
  have e1 : (A ++ y ++ z).take A.length = A := by rw [List.append_assoc, List.take_left']; rfl
  have e2 : (A ++ y ++ z).drop (A.length + x.length) = y.drop k ++ z := by
    rw [hx, List.append_assoc, List.drop_append, List.drop_eq_nil_of_le (by omega), List.nil_append, show A.length + k - A.length = k by omega, List.drop_append_of_le_length (by omega)]
  have e3 : (A ++ x ++ (y.drop k ++ z)).take (A.length + k) = A ++ x := by
    rw [← hx, ← List.length_append, List.take_left']
    rfl
  have e4 : (A ++ x ++ (y.drop k ++ z)).drop (A.length + k + D.length) = z := by
    have e5 : (A ++ x ++ y.drop k).length = A.length + k + D.length := by rw [List.length_append, List.length_append, List.length_drop, hx, hz]; omega
    rw [← List.append_assoc, ← e5, List.drop_left']
    rfl
  rw [e1, e2, e3, e4]

end Go.Proofs.Ytklepnldoajghaa
