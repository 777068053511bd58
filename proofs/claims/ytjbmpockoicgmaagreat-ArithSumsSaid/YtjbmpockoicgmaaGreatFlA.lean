/- Rows of elements of several cells, and what copies and stores do to them. No walk; no condition. -/
import Derived.Test.YtjbmpockoicgmaaGreatProg
import Derived.WalkKit
import Derived.WalkSpells
import Derived.WalkLawsBesides
import Derived.Deep.Draws
import Derived.WalkSmall
import Derived.Laws.CopyRow
import Derived.Laws.AppendOwn
import Derived.Below
import Derived.RangeFuncNested
import Derived.Deep.RegionHeld3
import Derived.Deep.AppendLies
import Derived.StillTactics
import Derived.OwnWalk
import Derived.Laws.Pointers
import Derived.BigQuiet
import Derived.BigRegion
import Derived.RegionTactic
import Derived.Lib.Hide
import Derived.Sort.Walk0
import Derived.Lib.Bytealg
import Derived.Lib.Strings
namespace Go.Proofs.YtjbmpockoicgmaaGreat
open Go.RowKit

/-- A copy of elements of k cells each: the cells are laid over what stands. -/
theorem run_copy_rows {P : Program} (w : World) (dT sT ty elem : TypeId) (g o dLen dCap : Nat) (a : Addr) (sLen sCap : Nat) (cur : Array Value) (t : TypeId) (cs : List Value) (k m : Nat)
    (hu : P.underlying dT = some (.slice elem)) (hs : (P.info? elem).map (·.size) = some k)
    (hg : w.heap[g]? = some (.cells cur t (0, 0))) (hm : Nat.min sLen dLen = m) (hn : cs.length = m * k)
    (hsrc : ∀ j v, cs[j]? = some v → w.cell? (a.add j) = some v) (hfit : o + cs.length ≤ cur.size) (h1 : ∀ v ∈ cs, v.oneCell' = true) :
    (Builtin.copy_ #[dT, sT] ty #[.slice (some ⟨g, o, none⟩) dLen dCap, .slice (some a) sLen sCap]).run P w =
      .ok (goInt m) (w.setRow g (cur.toList.take o ++ cs ++ cur.toList.drop (o + cs.length)).toArray) := by
  have hl := run_loadCells_list (P := P) w a cs hsrc
  have hst := run_storeCells_at P g o t cs 0 cur w hg (by simpa using hfit) h1
  cases hq : P.info? elem with
  | none => simp [hq] at hs
  | some i =>
    have hi : i.size = k := by simpa [hq] using hs
    simp [Builtin.copy_, run_underlying hu, Builtin.lenOf, Builtin.firstCells, sizeOf, typeInfo, hq, hi, hm, ← hn, hl, hst]

/-- A block known whole. -/
def Blk (W : World) (g : Nat) (t : TypeId) (cs : Array Value) : Prop := W.heap[g]? = some (.cells cs t (0, 0))
theorem Blk.lt {W : World} {g : Nat} {t : TypeId} {cs : Array Value} (h : Blk W g t cs) : g < W.heap.size := (Array.getElem?_eq_some_iff.1 h).1
theorem Blk.cell {W : World} {g : Nat} {t : TypeId} {cs : Array Value} (h : Blk W g t cs) (i : Nat) : W.cell? ⟨g, i, none⟩ = cs[i]? := by
  unfold Blk at h
  simp [World.cell?, h]
theorem Blk.frozen {W : World} {g : Nat} {t : TypeId} {cs : Array Value} (h : Blk W g t cs) (i : Nat) : W.frozen? ⟨g, i, none⟩ = false := by
  unfold Blk at h
  simp [World.frozen?, h]
theorem Blk.shape {W : World} {g : Nat} {t : TypeId} {cs : Array Value} (h : Blk W g t cs) : W.shape? g = some (t, cs.size) := by
  unfold Blk at h
  simp [World.shape?, h]
theorem Blk.new (w : World) (t : TypeId) (cs : Array Value) : Blk (w.alloc (.cells cs t)) w.heap.size t cs := World.alloc_heap_new w _
theorem Blk.alloc {W : World} {g : Nat} {t : TypeId} {cs : Array Value} (h : Blk W g t cs) (o : Obj) : Blk (W.alloc o) g t cs := (Below.heap_alloc W o g h.lt).trans h
theorem Blk.set_ {W : World} {g : Nat} {t : TypeId} {cs : Array Value} (h : Blk W g t cs) (i : Nat) (u : Value) : Blk (W.setCell ⟨g, i, none⟩ u) g t (cs.setIfInBounds i u) := by
  unfold Blk at h ⊢
  simp [World.setCell, Array.getElem?_modify, h]
theorem Blk.far {W : World} {g : Nat} {t : TypeId} {cs : Array Value} (h : Blk W g t cs) {p : Addr} (hp : g ≠ p.block) (u : Value) : Blk (W.setCell p u) g t cs := (Below.heap_setCell W p u g hp).trans h
theorem Blk.row {W : World} {g : Nat} {t : TypeId} {cs : Array Value} (h : Blk W g t cs) (cs' : Array Value) : Blk (W.setRow g cs') g t cs' := setRow_heap W g cs cs' t _ h
theorem Blk.rowFar {W : World} {g g' : Nat} {t : TypeId} {cs : Array Value} (h : Blk W g t cs) (hp : g ≠ g') (cs' : Array Value) : Blk (W.setRow g' cs') g t cs := (setRow_other W g' g cs' hp).trans h
theorem Blk.mem {W : World} {g : Nat} {t : TypeId} {cs : Array Value} (h : Blk W g t cs) {l : List Value} (i : Nat) (hl : ∀ j v, l[j]? = some v → cs[i + j]? = some v) (j : Nat) (v : Value) (hj : l[j]? = some v) : W.cell? ((⟨g, i, none⟩ : Addr).add j) = some v := by
  rw [Addr.add_lit, h.cell]
  exact hl j v hj

/-- A row of elements that are cells each. -/
def flat {α : Type} (enc : α → List Value) (l : List α) : List Value := l.flatMap enc
theorem flat_len {α : Type} {enc : α → List Value} {k : Nat} (hk : ∀ x, (enc x).length = k) (l : List α) : (flat enc l).length = l.length * k := by
  induction l with
  | nil => simp [flat]
  | cons x l ih =>
    have e : flat enc (x :: l) = enc x ++ flat enc l := List.flatMap_cons
    rw [e, List.length_append, hk, ih, List.length_cons, Nat.succ_mul, Nat.add_comm]
theorem flat_append {α : Type} (enc : α → List Value) (a b : List α) : flat enc (a ++ b) = flat enc a ++ flat enc b := List.flatMap_append
theorem flat_take {α : Type} {enc : α → List Value} {k : Nat} (hk : ∀ x, (enc x).length = k) (l : List α) (i : Nat) (hi : i ≤ l.length) : (flat enc l).take (i * k) = flat enc (l.take i) := by
  have e : flat enc l = flat enc (l.take i) ++ flat enc (l.drop i) := by rw [← flat_append, List.take_append_drop]
  have e2 : (flat enc (l.take i)).length = i * k := by rw [flat_len hk, List.length_take, Nat.min_eq_left hi]
  rw [e, ← e2, List.take_left']
  rfl
theorem flat_drop {α : Type} {enc : α → List Value} {k : Nat} (hk : ∀ x, (enc x).length = k) (l : List α) (i : Nat) (hi : i ≤ l.length) : (flat enc l).drop (i * k) = flat enc (l.drop i) := by
  have e : flat enc l = flat enc (l.take i) ++ flat enc (l.drop i) := by rw [← flat_append, List.take_append_drop]
  have e2 : (flat enc (l.take i)).length = i * k := by rw [flat_len hk, List.length_take, Nat.min_eq_left hi]
  rw [e, ← e2, List.drop_left']
  rfl
/-- An element goes in at a place. -/
def ins {α : Type} (l : List α) (i : Nat) (x : α) : List α := l.take i ++ x :: l.drop i
theorem ins_len {α : Type} (l : List α) (i : Nat) (x : α) (hi : i ≤ l.length) : (ins l i x).length = l.length + 1 := by simp [ins]; omega
theorem flat_ins {α : Type} (enc : α → List Value) (l : List α) (i : Nat) (x : α) : flat enc (ins l i x) = flat enc (l.take i) ++ enc x ++ flat enc (l.drop i) := by
  simp [flat, ins]

/-- The two copies of an insertion with room. -/
theorem room_list (A D x r : List Value) (k : Nat) (hx : x.length = k) (hr : k ≤ r.length) :
    (((A ++ D ++ r).take (A.length + k) ++ D ++ (A ++ D ++ r).drop (A.length + k + D.length)).take A.length ++ x ++ ((A ++ D ++ r).take (A.length + k) ++ D ++ (A ++ D ++ r).drop (A.length + k + D.length)).drop (A.length + x.length)) = A ++ x ++ D ++ r.drop k := by
  have e1 : (A ++ D ++ r).drop (A.length + k + D.length) = r.drop k := by
    rw [List.drop_append, List.drop_eq_nil_of_le (by rw [List.length_append]; omega), List.nil_append, List.length_append, show A.length + k + D.length - (A.length + D.length) = k by omega]
  have e2 : ((A ++ D ++ r).take (A.length + k)).length = A.length + k := by rw [List.length_take, List.length_append, List.length_append]; omega
  have e3 : ((A ++ D ++ r).take (A.length + k) ++ D ++ r.drop k).take A.length = A := by
    rw [List.append_assoc, List.take_append_of_le_length (by omega), List.take_take, Nat.min_eq_left (by omega), List.append_assoc, List.take_left']
    rfl
  have e4 : ((A ++ D ++ r).take (A.length + k) ++ D ++ r.drop k).drop (A.length + x.length) = D ++ r.drop k := by
    rw [List.append_assoc, hx]
    exact List.drop_left' e2
  rw [e1, e3, e4]
  simp [List.append_assoc]
/-- The two copies of an insertion into a new row. -/
theorem grow_list (A D x y z : List Value) (k : Nat) (hx : x.length = k) (hz : y.length = k + D.length) :
    (((A ++ y ++ z).take A.length ++ x ++ (A ++ y ++ z).drop (A.length + x.length)).take (A.length + k) ++ D ++ ((A ++ y ++ z).take A.length ++ x ++ (A ++ y ++ z).drop (A.length + x.length)).drop (A.length + k + D.length)) = A ++ x ++ D ++ z := by
  have e1 : (A ++ y ++ z).take A.length = A := by rw [List.append_assoc, List.take_left']; rfl
  have e2 : (A ++ y ++ z).drop (A.length + x.length) = y.drop k ++ z := by
    rw [hx, List.append_assoc, List.drop_append, List.drop_eq_nil_of_le (by omega), List.nil_append, show A.length + k - A.length = k by omega, List.drop_append_of_le_length (by omega)]
  have e3 : (A ++ x ++ (y.drop k ++ z)).take (A.length + k) = A ++ x := by
    rw [← hx, ← List.length_append, List.take_left']
    rfl
  have e4 : (A ++ x ++ (y.drop k ++ z)).drop (A.length + k + D.length) = z := by
    have e5 : (A ++ x ++ y.drop k).length = A.length + k + D.length := by rw [List.length_append, List.length_append, List.length_drop, hx, hz]; omega
    rw [← List.append_assoc, ← e5, List.drop_left']
    rfl
  rw [e1, e2, e3, e4]

theorem row_weak {w : World} {b b' : Nat} {e : TypeId} {size : Nat} {v : Value} {n : Nat} {xs : List Value} (h : w.ownsRow b e size v n xs) (hb : b' ≤ b) : w.ownsRow b' e size v n xs := by
  refine ⟨h.1, ?_⟩
  rcases h.2 with h | ⟨g, cap, cur, e1, e2, e3⟩
  · exact .inl h
  · exact .inr ⟨g, cap, cur, e1, Nat.le_trans hb e2, e3⟩
theorem undrew {n : Nat} {A w : World} (h : Below n A.drew w) : Below n A w := ⟨h.os, h.tape, h.output, h.size, h.block⟩
theorem row_cells {n₀ : Nat} {e : TypeId} {size : Nat} {w : World} {g n cap : Nat} {xs : List Value} (h : w.ownsRow n₀ e size (.slice (some ⟨g, 0, none⟩) n cap) n xs) : ∀ j u, xs[j]? = some u → w.cell? ⟨g, 0 + j, none⟩ = some u := fun j u hj => by
  rcases h.2 with ⟨e, _⟩ | ⟨g1, cap1, cur, e, _, hg, _, _, _, htk⟩
  · cases e
  · obtain ⟨rfl, rfl⟩ : g = g1 ∧ cap = cap1 := by simpa using e
    have hl : j < n * size := by rw [← h.1]; exact (List.getElem?_eq_some_iff.1 hj).1
    rw [← htk, List.getElem?_take_of_lt hl, Array.getElem?_toList] at hj
    rw [Nat.zero_add]
    exact (cell_of_row w g j cur _ (0, 0) hg).trans hj

theorem flat_one {α : Type} {enc : α → List Value} (h : ∀ y, ∀ u ∈ enc y, u.oneCell' = true) (l : List α) : ∀ u ∈ flat enc l, u.oneCell' = true := fun u hu => by
  obtain ⟨y, _, hy⟩ := List.mem_flatMap.1 hu
  exact h y u hy

theorem flat_get {α : Type} {enc : α → List Value} {k : Nat} (hk : ∀ x, (enc x).length = k) {l : List α} {i : Nat} {x : α} (h : l[i]? = some x) (j : Nat) (hj : j < k) : (flat enc l)[i * k + j]? = (enc x)[j]? := by
  obtain ⟨hi, hx⟩ := List.getElem?_eq_some_iff.1 h
  have e : flat enc l = flat enc (l.take i) ++ (enc x ++ flat enc (l.drop (i + 1))) := by
    have e1 : l = l.take i ++ x :: l.drop (i + 1) := by
      rw [← hx, List.getElem_cons_drop, List.take_append_drop]
    conv => lhs; rw [e1]
    simp [flat]
  have e2 : (flat enc (l.take i)).length = i * k := by rw [flat_len hk, List.length_take, Nat.min_eq_left (by omega)]
  rw [e, List.getElem?_append_right (by omega), e2, Nat.add_sub_cancel_left, List.getElem?_append_left (by rw [hk]; exact hj)]

theorem row_at {α : Type} {enc : α → List Value} {k : Nat} (hk : ∀ x, (enc x).length = k) {n₀ : Nat} {e : TypeId} {w : World} {v : Value} {l : List α} (h : w.ownsRow n₀ e k v l.length (flat enc l)) {i : Nat} {x : α} (hx : l[i]? = some x) :
    ∃ g cap, v = .slice (some ⟨g, 0, none⟩) l.length cap ∧ n₀ ≤ g ∧ (∀ j u, (enc x)[j]? = some u → w.cell? ⟨g, i * k + j, none⟩ = some u) ∧ (∀ o, w.frozen? ⟨g, o, none⟩ = false) ∧ l.length ≤ cap := by
  obtain ⟨hi, _⟩ := List.getElem?_eq_some_iff.1 hx
  rcases h.2 with ⟨rfl, h0⟩ | ⟨g, cap, cur, rfl, hg0, hg, hc, _, hs, htk⟩
  · omega
  · refine ⟨g, cap, rfl, hg0, fun j u hj => ?_, fun o => ?_, hc⟩
    · have hjk : j < k := by rw [← hk x]; exact (List.getElem?_eq_some_iff.1 hj).1
      have hlt : i * k + j < l.length * k := by
        have := Nat.mul_le_mul_right k (show i + 1 ≤ l.length by omega)
        rw [Nat.succ_mul] at this
        omega
      have e := cell_of_row w g (i * k + j) cur e (0, 0) hg
      have e2 := flat_get hk hx j hjk
      rw [← htk, List.getElem?_take_of_lt hlt, Array.getElem?_toList] at e2
      exact (e.trans e2).trans hj
    · simp [World.frozen?, hg]

theorem row_keep {w w1 : World} {base : Nat} {e : TypeId} {size : Nat} {v : Value} {n : Nat} {xs : List Value} (h : w.ownsRow base e size v n xs) (hb : ∀ g, v.ownBlock = some g → w1.heap[g]? = w.heap[g]?) : w1.ownsRow base e size v n xs := by
  refine ⟨h.1, ?_⟩
  rcases h.2 with h | ⟨g, cap, cur, e1, e2, e3, e4⟩
  · exact .inl h
  · refine .inr ⟨g, cap, cur, e1, e2, ?_, e4⟩
    rw [hb g (by rw [e1]; rfl)]; exact e3
theorem row_lt {w : World} {base : Nat} {e : TypeId} {size : Nat} {v : Value} {n : Nat} {xs : List Value} (h : w.ownsRow base e size v n xs) {g : Nat} (hg : v.ownBlock = some g) : g < w.heap.size := (h.lt g hg).2
theorem row_beneath {w w1 : World} {base : Nat} {e : TypeId} {size : Nat} {v : Value} {n : Nat} {xs : List Value} (h : w.ownsRow base e size v n xs) (hb : Below w.heap.size w w1) : w1.ownsRow base e size v n xs :=
  row_keep h (fun g hg => hb.block g (row_lt h hg))
theorem blk_beneath {w w1 : World} {g : Nat} {t : TypeId} {cs : Array Value} (h : Blk w g t cs) (hb : Below w.heap.size w w1) : Blk w1 g t cs := (hb.block g h.lt).trans h

theorem row_off {W : World} {g : Nat} {t e : TypeId} {cs : Array Value} {base size n : Nat} {v : Value} {xs : List Value} (hB : Blk W g t cs) (hte : t ≠ e) (h : W.ownsRow base e size v n xs) : some g ≠ v.ownBlock := by
  rcases h.2 with ⟨rfl, _⟩ | ⟨g1, cap, cur, rfl, _, hb, _⟩
  · simp [Value.ownBlock]
  · intro e
    obtain rfl : g = g1 := by simpa [Value.ownBlock] using e
    have := hB.symm.trans hb
    simp at this
    exact hte this.2

theorem block_of_cell {w : World} {a : Addr} {v : Value} (h : w.cell? a = some v) : a.block < w.heap.size := by
  unfold World.cell? at h
  rcases Nat.lt_or_ge a.block w.heap.size with g | g
  · exact g
  · rw [Array.getElem?_eq_none g] at h; simp at h
theorem cell_alloc {w : World} {p i : Nat} (o : Obj) (h : p < w.heap.size) : (w.alloc o).cell? ⟨p, i, none⟩ = w.cell? ⟨p, i, none⟩ := World.cell?_of_block (w := w) (Below.heap_alloc w o p h)

/-- One text is ahead of another. -/
def lt (a b : ByteArray) : Bool := Op.bytesLess a.toList b.toList
theorem lt_eq (a b : ByteArray) : lt a b = decide (a.toList < b.toList) := bytesLess_eq _ _
theorem lt_irrefl (a : ByteArray) : lt a a = false := by
  rw [lt_eq]; exact decide_eq_false (List.lt_irrefl _)
theorem lt_trans {a b c : ByteArray} (h : lt a b = true) (k : lt b c = true) : lt a c = true := by
  rw [lt_eq] at *
  exact decide_eq_true (List.lt_trans (of_decide_eq_true h) (of_decide_eq_true k))
theorem toList_inj {a b : ByteArray} (h : a.toList = b.toList) : a = b := by
  rw [Lib.toList_data, Lib.toList_data] at h
  cases a with
  | mk yd => cases b with
    | mk xd => exact congrArg ByteArray.mk (Array.toList_inj.1 h)
theorem lt_total {a b : ByteArray} (h : lt a b = false) (k : lt b a = false) : a = b := by
  rw [lt_eq] at h k
  exact toList_inj (List.le_antisymm (of_decide_eq_false k) (of_decide_eq_false h))

def pos (K : List ByteArray) (x : ByteArray) : Nat := (K.takeWhile (fun y => lt y x)).length
def has (K : List ByteArray) (x : ByteArray) : Bool := decide (K[pos K x]? = some x)
def Sorted (K : List ByteArray) : Prop := K.Pairwise (fun a b => lt a b = true)

theorem pos_le (K : List ByteArray) (x : ByteArray) : pos K x ≤ K.length := (List.takeWhile_sublist _).length_le
theorem pos_below (K : List ByteArray) (x : ByteArray) : ∀ (t : Nat) (y : ByteArray), t < pos K x → K[t]? = some y → lt y x = true := by
  induction K with
  | nil => intro t y h; simp [pos] at h
  | cons k K ih =>
    intro t y ht hy
    by_cases hk : lt k x = true
    · have e : pos (k :: K) x = pos K x + 1 := by simp [pos, hk]
      cases t with
      | zero => simp at hy; rw [← hy]; exact hk
      | succ t => exact ih t y (by omega) (by simpa using hy)
    · have e : pos (k :: K) x = 0 := by simp [pos, hk]
      omega
theorem pos_above (K : List ByteArray) (x : ByteArray) (hs : Sorted K) : ∀ (t : Nat) (y : ByteArray), pos K x ≤ t → K[t]? = some y → lt y x = false := by
  induction K with
  | nil => intro t y _ h; simp at h
  | cons k K ih =>
    intro t y ht hy
    have hs' := List.pairwise_cons.1 hs
    by_cases hk : lt k x = true
    · have e : pos (k :: K) x = pos K x + 1 := by simp [pos, hk]
      cases t with
      | zero => omega
      | succ t => exact ih hs'.2 t y (by omega) (by simpa using hy)
    · cases t with
      | zero => simp at hy; rw [← hy]; simpa using hk
      | succ t =>
        have hm : lt k y = true := hs'.1 y (List.mem_of_getElem? (by simpa using hy))
        cases g : lt y x with
        | false => rfl
        | true => exact absurd (lt_trans hm g) hk



theorem cmp_lt : ∀ a b : List UInt8, Lib.compareBytes a b < 0 ↔ Op.bytesLess a b = true
  | [], [] => by simp [Lib.compareBytes, Op.bytesLess]
  | [], _ :: _ => by simp [Lib.compareBytes, Op.bytesLess]
  | _ :: _, [] => by simp [Lib.compareBytes, Op.bytesLess]
  | a :: la, b :: lb => by
    unfold Lib.compareBytes Op.bytesLess
    by_cases h : a < b
    · simp [h]
    · by_cases k : b < a
      · have : ¬ a = b := fun e => h (e ▸ k)
        simp [h, k, this]
      · have : a = b := by
          apply UInt8.toNat_inj.1
          have h1 : ¬ a.toNat < b.toNat := h
          have h2 : ¬ b.toNat < a.toNat := k
          omega
        subst this
        simp [h, cmp_lt la lb]
theorem cmp_eq : ∀ a b : List UInt8, Lib.compareBytes a b = 0 ↔ a = b
  | [], [] => by simp [Lib.compareBytes]
  | [], _ :: _ => by simp [Lib.compareBytes]
  | _ :: _, [] => by simp [Lib.compareBytes]
  | a :: la, b :: lb => by
    unfold Lib.compareBytes
    by_cases h : a < b
    · have : ¬ a = b := fun e => by subst e; exact absurd h (by show ¬ a.toNat < a.toNat; omega)
      simp [h, this]
    · by_cases k : b < a
      · have : ¬ a = b := fun e => by subst e; exact absurd k h
        simp [h, k, this]
      · have : a = b := by
          apply UInt8.toNat_inj.1
          have h1 : ¬ a.toNat < b.toNat := h
          have h2 : ¬ b.toNat < a.toNat := k
          omega
        subst this
        simp [h, cmp_eq la lb]
/-- What strings.Compare says of two texts. -/
def cmpT (a b : ByteArray) : Int := Lib.compareBytes a.data.toList b.data.toList
theorem cmpT_lt (a b : ByteArray) : cmpT a b < 0 ↔ lt a b = true := by unfold cmpT lt; rw [cmp_lt, Lib.toList_data, Lib.toList_data]
theorem cmpT_eq (a b : ByteArray) : cmpT a b = 0 ↔ a = b := by
  unfold cmpT
  rw [cmp_eq, ← Lib.toList_data, ← Lib.toList_data]
  exact ⟨toList_inj, fun e => by rw [e]⟩
end Go.Proofs.YtjbmpockoicgmaaGreat
