/- Rows of elements of several cells, and what copies and stores do to them. No walk; no condition. -/
import Derived.Test.YtmilagppbepnbaaGreatSpa
import Derived.Test.YtmilagppbepnbaaGreatProg
import Derived.WalkKit
import Derived.WalkSpells
import Derived.WalkLawsBesides
import Derived.Deep.Draws
import Derived.WalkSmall
import Derived.Laws.CopyRow
import Derived.Laws.AppendOwn
import Derived.Below
import Derived.RangeFuncNested
import Derived.Deep.RegionHeld3
import Derived.Deep.AppendLies
import Derived.StillTactics
import Derived.OwnWalk
import Derived.Laws.Pointers
import Derived.BigQuiet
import Derived.BigRegion
import Derived.RegionTactic
import Derived.Lib.Hide
import Derived.Sort.Walk0
import Derived.Lib.Bytealg
import Derived.Lib.Strings
import Derived.Lib.Overlaps
import Derived.Shelf.Spec.SlicesInsert
import Derived.Shelf.Spec.SlicesInsertGrow
import Derived.Lib.AppendZerosOnto
import Derived.Deep.RegionLaw
import Derived.Laws.IdiomCopy
import Derived.Lib.IndexBytes
import Derived.PlainAid
import Derived.RangeFuncBound
import Derived.RangeFuncLeaves
import Derived.RangeFuncCalls
import Derived.RangeFuncFrom
import Derived.RangeFuncBox
import Derived.Shelf.Abstract
import Derived.Shelf.RegionOpen
import Derived.OwnWalkIn
import Derived.TacticsInMore
import Derived.LoopNIn
import Derived.LoopIn
import Derived.Sort.CutIn
import Derived.Sort.QuietIn
namespace Go.Proofs.YtmilagppbepnbaaGreat
open Go.RowKit

/-- A copy of elements of k cells each: the cells are laid over what stands. -/
theorem run_copy_rows {P : Program} (w : World) (dT sT ty elem : TypeId) (g o dLen dCap : Nat) (a : Addr) (sLen sCap : Nat) (cur : Array Value) (t : TypeId) (cs : List Value) (k m : Nat)
    (hu : P.underlying dT = some (.slice elem)) (hs : (P.info? elem).map (·.size) = some k)
    (hg : w.heap[g]? = some (.cells cur t (0, 0))) (hm : Nat.min sLen dLen = m) (hn : cs.length = m * k)
    (hsrc : ∀ j v, cs[j]? = some v → w.cell? (a.add j) = some v) (hfit : o + cs.length ≤ cur.size) (h1 : ∀ v ∈ cs, v.oneCell' = true) :
    (Builtin.copy_ #[dT, sT] ty #[.slice (some ⟨g, o, none⟩) dLen dCap, .slice (some a) sLen sCap]).run P w =
      .ok (goInt m) (w.setRow g (cur.toList.take o ++ cs ++ cur.toList.drop (o + cs.length)).toArray) := by
  have hl := run_loadCells_list (P := P) w a cs hsrc
  have hst := run_storeCells_at P g o t cs 0 cur w hg (by simpa using hfit) h1
  cases hq : P.info? elem with
  | none => simp [hq] at hs
  | some i =>
    have hi : i.size = k := by simpa [hq] using hs
    simp [Builtin.copy_, run_underlying hu, Builtin.lenOf, Builtin.firstCells, sizeOf, typeInfo, hq, hi, hm, ← hn, hl, hst]

/-- A block known whole. -/
def Blk (W : World) (g : Nat) (t : TypeId) (cs : Array Value) : Prop := W.heap[g]? = some (.cells cs t (0, 0))
theorem Blk.lt {W : World} {g : Nat} {t : TypeId} {cs : Array Value} (h : Blk W g t cs) : g < W.heap.size := (Array.getElem?_eq_some_iff.1 h).1
theorem Blk.cell {W : World} {g : Nat} {t : TypeId} {cs : Array Value} (h : Blk W g t cs) (i : Nat) : W.cell? ⟨g, i, none⟩ = cs[i]? := by
  unfold Blk at h
  simp [World.cell?, h]
theorem Blk.frozen {W : World} {g : Nat} {t : TypeId} {cs : Array Value} (h : Blk W g t cs) (i : Nat) : W.frozen? ⟨g, i, none⟩ = false := by
  unfold Blk at h
  simp [World.frozen?, h]
theorem Blk.shape {W : World} {g : Nat} {t : TypeId} {cs : Array Value} (h : Blk W g t cs) : W.shape? g = some (t, cs.size) := by
  unfold Blk at h
  simp [World.shape?, h]
theorem Blk.new (w : World) (t : TypeId) (cs : Array Value) : Blk (w.alloc (.cells cs t)) w.heap.size t cs := World.alloc_heap_new w _
theorem Blk.alloc {W : World} {g : Nat} {t : TypeId} {cs : Array Value} (h : Blk W g t cs) (o : Obj) : Blk (W.alloc o) g t cs := (Below.heap_alloc W o g h.lt).trans h
theorem Blk.set_ {W : World} {g : Nat} {t : TypeId} {cs : Array Value} (h : Blk W g t cs) (i : Nat) (u : Value) : Blk (W.setCell ⟨g, i, none⟩ u) g t (cs.setIfInBounds i u) := by
  unfold Blk at h ⊢
  simp [World.setCell, Array.getElem?_modify, h]
theorem Blk.far {W : World} {g : Nat} {t : TypeId} {cs : Array Value} (h : Blk W g t cs) {p : Addr} (hp : g ≠ p.block) (u : Value) : Blk (W.setCell p u) g t cs := (Below.heap_setCell W p u g hp).trans h
theorem Blk.row {W : World} {g : Nat} {t : TypeId} {cs : Array Value} (h : Blk W g t cs) (cs' : Array Value) : Blk (W.setRow g cs') g t cs' := setRow_heap W g cs cs' t _ h
theorem Blk.rowFar {W : World} {g g' : Nat} {t : TypeId} {cs : Array Value} (h : Blk W g t cs) (hp : g ≠ g') (cs' : Array Value) : Blk (W.setRow g' cs') g t cs := (setRow_other W g' g cs' hp).trans h
theorem Blk.mem {W : World} {g : Nat} {t : TypeId} {cs : Array Value} (h : Blk W g t cs) {l : List Value} (i : Nat) (hl : ∀ j v, l[j]? = some v → cs[i + j]? = some v) (j : Nat) (v : Value) (hj : l[j]? = some v) : W.cell? ((⟨g, i, none⟩ : Addr).add j) = some v := by
  rw [Addr.add_lit, h.cell]
  exact hl j v hj

/-- A row of elements that are cells each. -/
def flat {α : Type} (enc : α → List Value) (l : List α) : List Value := l.flatMap enc
theorem flat_len {α : Type} {enc : α → List Value} {k : Nat} (hk : ∀ x, (enc x).length = k) (l : List α) : (flat enc l).length = l.length * k := by
  induction l with
  | nil => simp [flat]
  | cons x l ih =>
    have e : flat enc (x :: l) = enc x ++ flat enc l := List.flatMap_cons
    rw [e, List.length_append, hk, ih, List.length_cons, Nat.succ_mul, Nat.add_comm]
theorem flat_append {α : Type} (enc : α → List Value) (a b : List α) : flat enc (a ++ b) = flat enc a ++ flat enc b := List.flatMap_append
/-- An element goes in at a place. -/
def ins {α : Type} (l : List α) (i : Nat) (x : α) : List α := l.take i ++ x :: l.drop i
theorem ins_len {α : Type} (l : List α) (i : Nat) (x : α) (hi : i ≤ l.length) : (ins l i x).length = l.length + 1 := by simp [ins]; omega
theorem flat_ins {α : Type} (enc : α → List Value) (l : List α) (i : Nat) (x : α) : flat enc (ins l i x) = flat enc (l.take i) ++ enc x ++ flat enc (l.drop i) := by
  simp [flat, ins]

/-- The two copies of an insertion with room. -/
theorem room_list (A D x r : List Value) (k : Nat) (hx : x.length = k) (hr : k ≤ r.length) :
    (((A ++ D ++ r).take (A.length + k) ++ D ++ (A ++ D ++ r).drop (A.length + k + D.length)).take A.length ++ x ++ ((A ++ D ++ r).take (A.length + k) ++ D ++ (A ++ D ++ r).drop (A.length + k + D.length)).drop (A.length + x.length)) = A ++ x ++ D ++ r.drop k := by
  have e1 : (A ++ D ++ r).drop (A.length + k + D.length) = r.drop k := by
    rw [List.drop_append, List.drop_eq_nil_of_le (by rw [List.length_append]; omega), List.nil_append, List.length_append, show A.length + k + D.length - (A.length + D.length) = k by omega]
  have e2 : ((A ++ D ++ r).take (A.length + k)).length = A.length + k := by rw [List.length_take, List.length_append, List.length_append]; omega
  have e3 : ((A ++ D ++ r).take (A.length + k) ++ D ++ r.drop k).take A.length = A := by
    rw [List.append_assoc, List.take_append_of_le_length (by omega), List.take_take, Nat.min_eq_left (by omega), List.append_assoc, List.take_left']
    rfl
  have e4 : ((A ++ D ++ r).take (A.length + k) ++ D ++ r.drop k).drop (A.length + x.length) = D ++ r.drop k := by
    rw [List.append_assoc, hx]
    exact List.drop_left' e2
  rw [e1, e3, e4]
  simp [List.append_assoc]
/-- The two copies of an insertion into a new row. -/
theorem grow_list (A D x y z : List Value) (k : Nat) (hx : x.length = k) (hz : y.length = k + D.length) :
    (((A ++ y ++ z).take A.length ++ x ++ (A ++ y ++ z).drop (A.length + x.length)).take (A.length + k) ++ D ++ ((A ++ y ++ z).take A.length ++ x ++ (A ++ y ++ z).drop (A.length + x.length)).drop (A.length + k + D.length)) = A ++ x ++ D ++ z := by
  have e1 : (A ++ y ++ z).take A.length = A := by rw [List.append_assoc, List.take_left']; rfl
  have e2 : (A ++ y ++ z).drop (A.length + x.length) = y.drop k ++ z := by
    rw [hx, List.append_assoc, List.drop_append, List.drop_eq_nil_of_le (by omega), List.nil_append, show A.length + k - A.length = k by omega, List.drop_append_of_le_length (by omega)]
  have e3 : (A ++ x ++ (y.drop k ++ z)).take (A.length + k) = A ++ x := by
    rw [← hx, ← List.length_append, List.take_left']
    rfl
  have e4 : (A ++ x ++ (y.drop k ++ z)).drop (A.length + k + D.length) = z := by
    have e5 : (A ++ x ++ y.drop k).length = A.length + k + D.length := by rw [List.length_append, List.length_append, List.length_drop, hx, hz]; omega
    rw [← List.append_assoc, ← e5, List.drop_left']
    rfl
  rw [e1, e2, e3, e4]


theorem flat_one {α : Type} {enc : α → List Value} (h : ∀ y, ∀ u ∈ enc y, u.oneCell' = true) (l : List α) : ∀ u ∈ flat enc l, u.oneCell' = true := fun u hu => by
  obtain ⟨y, _, hy⟩ := List.mem_flatMap.1 hu
  exact h y u hy

theorem flat_get {α : Type} {enc : α → List Value} {k : Nat} (hk : ∀ x, (enc x).length = k) {l : List α} {i : Nat} {x : α} (h : l[i]? = some x) (j : Nat) (hj : j < k) : (flat enc l)[i * k + j]? = (enc x)[j]? := by
  obtain ⟨hi, hx⟩ := List.getElem?_eq_some_iff.1 h
  have e : flat enc l = flat enc (l.take i) ++ (enc x ++ flat enc (l.drop (i + 1))) := by
    have e1 : l = l.take i ++ x :: l.drop (i + 1) := by
      rw [← hx, List.getElem_cons_drop, List.take_append_drop]
    conv => lhs; rw [e1]
    simp [flat]
  have e2 : (flat enc (l.take i)).length = i * k := by rw [flat_len hk, List.length_take, Nat.min_eq_left (by omega)]
  rw [e, List.getElem?_append_right (by omega), e2, Nat.add_sub_cancel_left, List.getElem?_append_left (by rw [hk]; exact hj)]

theorem row_at {α : Type} {enc : α → List Value} {k : Nat} (hk : ∀ x, (enc x).length = k) {n₀ : Nat} {e : TypeId} {w : World} {v : Value} {l : List α} (h : w.ownsRow n₀ e k v l.length (flat enc l)) {i : Nat} {x : α} (hx : l[i]? = some x) :
    ∃ g cap, v = .slice (some ⟨g, 0, none⟩) l.length cap ∧ n₀ ≤ g ∧ (∀ j u, (enc x)[j]? = some u → w.cell? ⟨g, i * k + j, none⟩ = some u) ∧ (∀ o, w.frozen? ⟨g, o, none⟩ = false) ∧ l.length ≤ cap := by
  obtain ⟨hi, _⟩ := List.getElem?_eq_some_iff.1 hx
  rcases h.2 with ⟨rfl, h0⟩ | ⟨g, cap, cur, rfl, hg0, hg, hc, _, hs, htk⟩
  · omega
  · refine ⟨g, cap, rfl, hg0, fun j u hj => ?_, fun o => ?_, hc⟩
    · have hjk : j < k := by rw [← hk x]; exact (List.getElem?_eq_some_iff.1 hj).1
      have hlt : i * k + j < l.length * k := by
        have := Nat.mul_le_mul_right k (show i + 1 ≤ l.length by omega)
        rw [Nat.succ_mul] at this
        omega
      have e := cell_of_row w g (i * k + j) cur e (0, 0) hg
      have e2 := flat_get hk hx j hjk
      rw [← htk, List.getElem?_take_of_lt hlt, Array.getElem?_toList] at e2
      exact (e.trans e2).trans hj
    · simp [World.frozen?, hg]

theorem row_keep {w w1 : World} {base : Nat} {e : TypeId} {size : Nat} {v : Value} {n : Nat} {xs : List Value} (h : w.ownsRow base e size v n xs) (hb : ∀ g, v.ownBlock = some g → w1.heap[g]? = w.heap[g]?) : w1.ownsRow base e size v n xs := by
  refine ⟨h.1, ?_⟩
  rcases h.2 with h | ⟨g, cap, cur, e1, e2, e3, e4⟩
  · exact .inl h
  · refine .inr ⟨g, cap, cur, e1, e2, ?_, e4⟩
    rw [hb g (by rw [e1]; rfl)]; exact e3
theorem row_lt {w : World} {base : Nat} {e : TypeId} {size : Nat} {v : Value} {n : Nat} {xs : List Value} (h : w.ownsRow base e size v n xs) {g : Nat} (hg : v.ownBlock = some g) : g < w.heap.size := (h.lt g hg).2
theorem row_beneath {w w1 : World} {base : Nat} {e : TypeId} {size : Nat} {v : Value} {n : Nat} {xs : List Value} (h : w.ownsRow base e size v n xs) (hb : Below w.heap.size w w1) : w1.ownsRow base e size v n xs :=
  row_keep h (fun g hg => hb.block g (row_lt h hg))
theorem blk_beneath {w w1 : World} {g : Nat} {t : TypeId} {cs : Array Value} (h : Blk w g t cs) (hb : Below w.heap.size w w1) : Blk w1 g t cs := (hb.block g h.lt).trans h

theorem row_off {W : World} {g : Nat} {t e : TypeId} {cs : Array Value} {base size n : Nat} {v : Value} {xs : List Value} (hB : Blk W g t cs) (hte : t ≠ e) (h : W.ownsRow base e size v n xs) : some g ≠ v.ownBlock := by
  rcases h.2 with ⟨rfl, _⟩ | ⟨g1, cap, cur, rfl, _, hb, _⟩
  · simp [Value.ownBlock]
  · intro e
    obtain rfl : g = g1 := by simpa [Value.ownBlock] using e
    have := hB.symm.trans hb
    simp at this
    exact hte this.2

theorem block_of_cell {w : World} {a : Addr} {v : Value} (h : w.cell? a = some v) : a.block < w.heap.size := by
  unfold World.cell? at h
  rcases Nat.lt_or_ge a.block w.heap.size with g | g
  · exact g
  · rw [Array.getElem?_eq_none g] at h; simp at h

/-- One text is ahead of another. -/
def lt (a b : ByteArray) : Bool := Op.bytesLess a.toList b.toList
theorem lt_eq (a b : ByteArray) : lt a b = decide (a.toList < b.toList) := bytesLess_eq _ _
theorem lt_irrefl (a : ByteArray) : lt a a = false := by
  rw [lt_eq]; exact decide_eq_false (List.lt_irrefl _)
theorem lt_trans {a b c : ByteArray} (h : lt a b = true) (k : lt b c = true) : lt a c = true := by
  rw [lt_eq] at *
  exact decide_eq_true (List.lt_trans (of_decide_eq_true h) (of_decide_eq_true k))
theorem toList_inj {a b : ByteArray} (h : a.toList = b.toList) : a = b := by
  rw [Lib.toList_data, Lib.toList_data] at h
  cases a with
  | mk yd => cases b with
    | mk xd => exact congrArg ByteArray.mk (Array.toList_inj.1 h)
theorem lt_total {a b : ByteArray} (h : lt a b = false) (k : lt b a = false) : a = b := by
  rw [lt_eq] at h k
  exact toList_inj (List.le_antisymm (of_decide_eq_false k) (of_decide_eq_false h))

def pos (K : List ByteArray) (x : ByteArray) : Nat := (K.takeWhile (fun y => lt y x)).length
def has (K : List ByteArray) (x : ByteArray) : Bool := decide (K[pos K x]? = some x)
def Sorted (K : List ByteArray) : Prop := K.Pairwise (fun a b => lt a b = true)

theorem pos_le (K : List ByteArray) (x : ByteArray) : pos K x ≤ K.length := (List.takeWhile_sublist _).length_le
theorem pos_below (K : List ByteArray) (x : ByteArray) : ∀ (t : Nat) (y : ByteArray), t < pos K x → K[t]? = some y → lt y x = true := by
  induction K with
  | nil => intro t y h; simp [pos] at h
  | cons k K ih =>
    intro t y ht hy
    by_cases hk : lt k x = true
    · have e : pos (k :: K) x = pos K x + 1 := by simp [pos, hk]
      cases t with
      | zero => simp at hy; rw [← hy]; exact hk
      | succ t => exact ih t y (by omega) (by simpa using hy)
    · have e : pos (k :: K) x = 0 := by simp [pos, hk]
      omega
theorem pos_above (K : List ByteArray) (x : ByteArray) (hs : Sorted K) : ∀ (t : Nat) (y : ByteArray), pos K x ≤ t → K[t]? = some y → lt y x = false := by
  induction K with
  | nil => intro t y _ h; simp at h
  | cons k K ih =>
    intro t y ht hy
    have hs' := List.pairwise_cons.1 hs
    by_cases hk : lt k x = true
    · have e : pos (k :: K) x = pos K x + 1 := by simp [pos, hk]
      cases t with
      | zero => omega
      | succ t => exact ih hs'.2 t y (by omega) (by simpa using hy)
    · cases t with
      | zero => simp at hy; rw [← hy]; simpa using hk
      | succ t =>
        have hm : lt k y = true := hs'.1 y (List.mem_of_getElem? (by simpa using hy))
        cases g : lt y x with
        | false => rfl
        | true => exact absurd (lt_trans hm g) hk



theorem cmp_lt : ∀ a b : List UInt8, Lib.compareBytes a b < 0 ↔ Op.bytesLess a b = true
  | [], [] => by simp [Lib.compareBytes, Op.bytesLess]
  | [], _ :: _ => by simp [Lib.compareBytes, Op.bytesLess]
  | _ :: _, [] => by simp [Lib.compareBytes, Op.bytesLess]
  | a :: la, b :: lb => by
    unfold Lib.compareBytes Op.bytesLess
    by_cases h : a < b
    · simp [h]
    · by_cases k : b < a
      · have : ¬ a = b := fun e => h (e ▸ k)
        simp [h, k, this]
      · have : a = b := by
          apply UInt8.toNat_inj.1
          have h1 : ¬ a.toNat < b.toNat := h
          have h2 : ¬ b.toNat < a.toNat := k
          omega
        subst this
        simp [h, cmp_lt la lb]
theorem cmp_eq : ∀ a b : List UInt8, Lib.compareBytes a b = 0 ↔ a = b
  | [], [] => by simp [Lib.compareBytes]
  | [], _ :: _ => by simp [Lib.compareBytes]
  | _ :: _, [] => by simp [Lib.compareBytes]
  | a :: la, b :: lb => by
    unfold Lib.compareBytes
    by_cases h : a < b
    · have : ¬ a = b := fun e => by subst e; exact absurd h (by show ¬ a.toNat < a.toNat; omega)
      simp [h, this]
    · by_cases k : b < a
      · have : ¬ a = b := fun e => by subst e; exact absurd k h
        simp [h, k, this]
      · have : a = b := by
          apply UInt8.toNat_inj.1
          have h1 : ¬ a.toNat < b.toNat := h
          have h2 : ¬ b.toNat < a.toNat := k
          omega
        subst this
        simp [h, cmp_eq la lb]
/-- What strings.Compare says of two texts. -/
def cmpT (a b : ByteArray) : Int := Lib.compareBytes a.data.toList b.data.toList
theorem cmpT_lt (a b : ByteArray) : cmpT a b < 0 ↔ lt a b = true := by unfold cmpT lt; rw [cmp_lt, Lib.toList_data, Lib.toList_data]
theorem cmpT_eq (a b : ByteArray) : cmpT a b = 0 ↔ a = b := by
  unfold cmpT
  rw [cmp_eq, ← Lib.toList_data, ← Lib.toList_data]
  exact ⟨toList_inj, fun e => by rw [e]⟩
end Go.Proofs.YtmilagppbepnbaaGreat
/- The entries of a directory; slices.Insert of one of them. Condition: the row is owned, the element lies in a block of its own. -/
namespace Go.Proofs.YtmilagppbepnbaaGreat
open Go.RowKit
attribute [local go_sem] Oper.semAt_some

/-- An entry: a name and a number. -/
abbrev En := ByteArray × Nat
def ecs (x : En) : List Value := [.string x.1, .int .i64 x.2]
theorem info290 : (Tryz.prog.info? 290).map (fun i => (i.zero, i.size, i.bytes)) = some (some (.agg #[.string ByteArray.empty, .int .i64 0]), 2, 24) := by kernel_rfl
theorem ecs_len (x : En) : (ecs x).length = 2 := rfl
theorem ecs_one (x : En) : ∀ u ∈ ecs x, u.oneCell' = true := by simp [ecs, Value.oneCell']
theorem ownsRow_slice {w : World} {M : Nat} {e : TypeId} {size : Nat} {v : Value} {n : Nat} {xs : List Value} (h : w.ownsRow M e size v n xs) : ∃ a c, v = .slice a n c := by
  rcases h.2 with ⟨rfl, rfl⟩ | ⟨g, cap, _, rfl, _⟩
  · exact ⟨none, 0, rfl⟩
  · exact ⟨_, cap, rfl⟩

set_option maxHeartbeats 4000000 in
set_option maxRecDepth 100000 in
theorem insert_e (n₀ : Nat) (V : List En) (x : En) (i : Nat) (v : Value) (g' : Nat) (tx : TypeId) (w : World) (hi : i ≤ V.length) (hown : w.ownsRow n₀ 290 2 v V.length (flat ecs V)) (hx : Blk w g' tx (ecs x).toArray)
    (hgv : v.ownBlock ≠ some g') (hn0 : n₀ ≤ w.heap.size) (hbig : V.length ≤ 100000) :
    Calls Tryz.prog 257 #[v, .int .i64 i, .slice (some ⟨g', 0, none⟩) 1 1] w fun e w' => ∃ gg cc, e = .returned (.slice (some ⟨gg, 0, none⟩) (V.length + 1) cc) ∧ w'.ownsRow n₀ 290 2 (.slice (some ⟨gg, 0, none⟩) (V.length + 1) cc) (V.length + 1) (flat ecs (ins V i x)) ∧ w.grownBy w' v.ownBlock ∧ (v.ownBlock = some gg ∨ w.heap.size ≤ gg) := by
  obtain ⟨i0, hi0, hz0, hz1, hz2⟩ := info_parts info290
  obtain ⟨n, hn⟩ : ∃ n, V.length = n := ⟨_, rfl⟩
  have hk : ∀ y, (ecs y).length = 2 := ecs_len
  have hsz : (Tryz.prog.info? 290).map (·.size) = some 2 := by rw [hi0]; simp [hz1]
  have h1x : ∀ u ∈ ecs x, u.oneCell' = true := ecs_one x
  have h1V : ∀ l : List En, ∀ u ∈ flat ecs l, u.oneCell' = true := fun l u hu => by
    obtain ⟨y, _, hy⟩ := List.mem_flatMap.1 hu
    exact ecs_one y u hy
  by_cases hin : i = n
  · have hI : Hid (flat ecs (ins V i x) = flat ecs V ++ ecs x) := Lib.hid (by rw [flat_ins, hin, ← hn, List.take_length, List.drop_length]; simp [flat])
    rw [hn] at hown hbig ⊢
    obtain ⟨a, c, rfl⟩ := ownsRow_slice hown
    subst hin
    have hownH := Lib.hid hown
    have hxH := Lib.hid hx
    have hsrc : ∀ j u, (ecs x)[j]? = some u → w.cell? ((⟨g', 0, none⟩ : Addr).add j) = some u := hx.mem 0 (fun j u h => by simpa using h)
    have hsrcH := Lib.hid hsrc
    clear hown hx hsrc
    go_enter Tryz.func257, Tryz.ntmps257
    go_wp2_with (at_builtin; refine wpList_append_lies _ rfl _ _ 150 rfl n₀ 290 i0 _ 2 _ Tryz.underlying150 hi0 hz0 hz1 hz2 rfl (by decide) (.slice a i c) i _ rfl hownH.out ⟨g', 0, none⟩ 1 1 (ecs x) rfl (by rw [hk]) hsrcH.out h1x (by decide) (by unfold maxLen; omega) (by omega) hn0 _ rfl ?_; intro gg cc w' hown' hgr hat _)
    all_goals
      go_ret
      exact ⟨gg, cc, rfl, by rw [hI.out]; exact hown', by first | exact hgr | (cases a <;> exact hgr), by rcases hat with hat | hat; exact .inl (by first | exact hat | (cases a <;> exact hat)); exact .inr (Nat.le_of_eq hat.symm)⟩
  · have hilt : i < n := by omega
    have hD : V.length - i = n - i := by rw [hn]
    obtain ⟨A, hA⟩ : ∃ A, flat ecs (V.take i) = A := ⟨_, rfl⟩
    obtain ⟨D, hDd⟩ : ∃ D, flat ecs (V.drop i) = D := ⟨_, rfl⟩
    have hAl : A.length = i * 2 := by rw [← hA, flat_len hk, List.length_take, Nat.min_eq_left hi]
    have hDl : D.length = (n - i) * 2 := by rw [← hDd, flat_len hk, List.length_drop, hn]
    have hVf : flat ecs V = A ++ D := by rw [← hA, ← hDd, ← flat_append, List.take_append_drop]
    have hI : Hid (flat ecs (ins V i x) = A ++ ecs x ++ D) := Lib.hid (by rw [flat_ins, hA, hDd])
    have hDo : ∀ u ∈ D, u.oneCell' = true := by rw [← hDd]; exact h1V _
    rw [hn, hVf] at hown
    rw [hn] at hbig ⊢
    clear hi hn hA hDd hVf hD h1V
    obtain ⟨h1, h2⟩ := hown
    rcases h2 with ⟨rfl, h0⟩ | ⟨g, cap, cur, rfl, hg0, hgb, hncap, hcap, hcs, htk⟩
    · omega
    have hgne : g ≠ g' := fun e => hgv (by rw [e]; rfl)
    have hB : Blk w g 290 cur := hgb
    obtain ⟨r, hr⟩ : ∃ r, cur.toList = A ++ D ++ r := ⟨cur.toList.drop (n * 2), by rw [← htk, List.take_append_drop]⟩
    have hxl : (ecs x).length = 2 := hk x
    have hcl : cur.toList.length = cap * 2 := by rw [Array.length_toList, hcs]
    have hrl : (n * 2) + r.length = cap * 2 := by
      rw [← hcl, hr, List.length_append, List.length_append, hAl, hDl]
      omega
    have hsA : ∀ j u, A[j]? = some u → w.cell? ((⟨g, 0, none⟩ : Addr).add j) = some u := hB.mem 0 (fun j u h => by
      rw [Nat.zero_add, ← Array.getElem?_toList, hr, List.append_assoc, List.getElem?_append_left (List.getElem?_eq_some_iff.1 h).1]
      exact h)
    have hsD : ∀ (W : World), W.heap[g]? = w.heap[g]? → ∀ j u, D[j]? = some u → W.cell? ((⟨g, i * 2, none⟩ : Addr).add j) = some u := fun W hW j u h => by
      rw [World.cell?_of_block (w := w) (by rw [Addr.add_lit]; exact hW)]
      exact hB.mem (i * 2) (fun j u h => by
        rw [← Array.getElem?_toList, hr, List.append_assoc, ← hAl, List.getElem?_append_right (by omega), Nat.add_sub_cancel_left, List.getElem?_append_left (List.getElem?_eq_some_iff.1 h).1]
        exact h) j u h
    have hw1 : IntKind.i64.wrap ((i : Int) + 1) = (i : Int) + 1 := by rw [IntKind.wrap_i64]; omega
    have hw2 : IntKind.i64.wrap ((n : Int) + 1) = (n : Int) + 1 := by rw [IntKind.wrap_i64]; omega
    by_cases hroom : n + 1 ≤ cap
    · have hov : ∀ lb cb, (callFunc 274 #[.slice (some ⟨g', 0, none⟩) 1 1, .slice (some ⟨g, (i + 1) * 2, none⟩) lb cb]).run Tryz.prog w = .ok (.value (.bool false)) w := fun lb cb => by
        rw [run_callFunc_extern Tryz.func274 (by kernel_rfl) (by kernel_rfl) (by kernel_rfl) (e := Extern.SlicesOverlaps.overlaps #[150, 150] #[4]) (by kernel_rfl),
          Lib.run_overlaps_apart w 150 4 290 Tryz.underlying150 2 Tryz.sizeOf290 ⟨g', 0, none⟩ ⟨g, (i + 1) * 2, none⟩ 1 1 lb cb (Ne.symm hgne) tx 290 (ecs x).toArray.size cur.size (hx.shape) (hB.shape) (by rw [hcs]; omega) (hx.frozen _) (hx.frozen _)]
        rfl
      have hb0 : (0 : Int) ≤ (i : Int) + 1 := by omega
      have hb1 : (i : Int) + 1 ≤ (n : Int) + 1 := by omega
      have hb2 : ¬ (cap = i + 1) := by omega
      have hb3 : (i : Int) ≤ (n : Int) + 1 := by omega
      have hb4 : ¬ (cap = i) := by omega
      have hz2 : ¬ ((i : Int) = (n : Int)) := by omega
      have hin' : i ≤ n := by omega
      have htn : ((i : Int) + 1).toNat = i + 1 := by omega
      have hov' := Lib.hid hov
      have mixed : Tryz.prog.follows .mixedOrders = true := by kernel_rfl
      obtain ⟨R1, hR1⟩ : ∃ R1 : Array Value, R1 = (cur.toList.take ((i + 1) * 2) ++ D ++ cur.toList.drop ((i + 1) * 2 + D.length)).toArray := ⟨_, rfl⟩
      obtain ⟨R2, hR2⟩ : ∃ R2 : Array Value, R2 = (R1.toList.take (i * 2) ++ ecs x ++ R1.toList.drop (i * 2 + (ecs x).length)).toArray := ⟨_, rfl⟩
      have hrK : 2 ≤ r.length := by omega
      have hR1l : R1.toList = (A ++ D ++ r).take (A.length + 2) ++ D ++ (A ++ D ++ r).drop (A.length + 2 + D.length) := by
        rw [hR1, ← hr, show A.length + 2 = (i + 1) * 2 by omega]
      have hR2l : R2.toList = A ++ ecs x ++ D ++ r.drop 2 := by
        rw [← room_list A D (ecs x) r 2 hxl hrK, ← hR1l, hR2, show i * 2 = A.length by omega]
      have hR1s : R1.size = (cap * 2) := by
        rw [← Array.length_toList, hR1l, List.length_append, List.length_append, List.length_take, List.length_drop, List.length_append, List.length_append]
        omega
      have hcp1 : Hid (∀ ty dc sc, (Builtin.copy_ #[150, 150] ty #[.slice (some ⟨g, (i + 1) * 2, none⟩) (n - i) dc, .slice (some ⟨g, i * 2, none⟩) (n + 1 - i) sc]).run Tryz.prog w.drew = .ok (goInt ((n - i : Nat) : Int)) (w.drew.setRow g R1)) := Lib.hid fun ty dc sc => by
        rw [hR1]
        exact run_copy_rows w.drew 150 150 ty 290 g ((i + 1) * 2) (n - i) dc ⟨g, i * 2, none⟩ (n + 1 - i) sc cur 290 D 2 (n - i) Tryz.underlying150 hsz hgb (by show min _ _ = _; omega) (by rw [hDl]) (hsD _ rfl) (by rw [hDl, hcs]; omega) hDo
      have hB2' : Hid (Blk (w.drew.setRow g R1) g 290 R1) := Lib.hid (Blk.row (W := w.drew) hB R1)
      have hx2' : Hid (Blk (w.drew.setRow g R1) g' tx (ecs x).toArray) := Lib.hid (Blk.rowFar (W := w.drew) hx (Ne.symm hgne) R1)
      have hcp2 : Hid (∀ (W : World), Blk W g 290 R1 → Blk W g' tx (ecs x).toArray → ∀ ty dc, (Builtin.copy_ #[150, 150] ty #[.slice (some ⟨g, i * 2, none⟩) (n + 1 - i) dc, .slice (some ⟨g', 0, none⟩) 1 1]).run Tryz.prog W = .ok (goInt 1) (W.setRow g R2)) := Lib.hid fun W hW hX ty dc => by
        rw [hR2]
        exact run_copy_rows W 150 150 ty 290 g (i * 2) (n + 1 - i) dc ⟨g', 0, none⟩ 1 1 R1 290 (ecs x) 2 1 Tryz.underlying150 hsz hW (by show min _ _ = _; omega) (by rw [hxl]) (hX.mem 0 (fun j u h => by simpa using h)) (by rw [hR1s, hxl]; omega) h1x
      have hcp2' := Lib.hid (hcp2.out _ hB2'.out hx2'.out 3 (cap - i))
      have hR2s : Hid (R2.size = (cap * 2)) := Lib.hid (by
        rw [← Array.length_toList, hR2l, List.length_append, List.length_append, List.length_append, List.length_drop]
        omega)
      have hR2t : Hid (R2.toList.take ((n + 1) * 2) = flat ecs (ins V i x)) := Lib.hid (by
        rw [hI.out, hR2l]
        exact List.take_left' (by rw [List.length_append, List.length_append]; omega))
      have hgrow : Hid (w.grownBy ((w.drew.setRow g R1).setRow g R2) (some g)) := Lib.hid ⟨rfl, rfl, rfl, by simp [World.setRow], fun k _ hk => by
        have hk' : k ≠ g := fun e => hk (by rw [e])
        exact (setRow_other _ g k R2 hk').trans (setRow_other _ g k R1 hk')⟩
      clear hov hR1 hR2 hR1l hR2l hB hgb hx hsA hsD
      go_enter Tryz.func257, Tryz.ntmps257
      go_wp2_with (simp only [hov'.out])
      go_region_law_o (go_loud (refine step_copy_runI rfl _ _ 150 150 rfl (.slice (some ⟨g, (i + 1) * 2, none⟩) (n - i) (cap - (i + 1))) (.slice (some ⟨g, i * 2, none⟩) (n + 1 - i) (cap - i)) (by simp [Act.eval, Act.put]) (by simp [Act.eval, Act.put]) (hcp1.out _ _ _) ?_))
      go_wp2_with (simp only [hcp2'.out, Result.andThen_ok])
      go_ret
      refine ⟨g, cap, rfl, ⟨?_, .inr ⟨g, cap, R2, rfl, hg0, (hB2'.out).row _, hroom, hcap, hR2s.out, hR2t.out⟩⟩, ?_, .inl rfl⟩
      · rw [hI.out]; simp [hAl, hDl, hxl]; omega
      · exact hgrow.out
    · have hcn : cap = n := by omega
      subst hcn
      have hold : (Builtin.firstCells i0.size i (.slice (some ⟨g, 0, none⟩) i cap)).run Tryz.prog w.drew = .ok A.toArray w.drew := by
        rw [hz1]
        exact run_firstCells_some w.drew 2 i ⟨g, 0, none⟩ i cap A (by rw [hAl]) hsA
      obtain ⟨G, hG⟩ : ∃ G, grownCap w (cap + 1) cap 290 = G := ⟨_, rfl⟩
      have hGn : cap + 1 ≤ G := by rw [← hG]; exact grownCap_ge w _ _ _
      have hG63 : G ≤ maxLen := by rw [← hG]; exact grownCap_le_maxLen w (cap + 1) cap 290 (by unfold maxLen; omega)
      obtain ⟨y, hy⟩ : ∃ y : Array Value, Builtin.zeroCells (Value.agg #[.string ByteArray.empty, .int .i64 0]).cells (cap + 1 - i) = y := ⟨_, rfl⟩
      obtain ⟨z, hz⟩ : ∃ z : Array Value, Builtin.zeroCells (Value.agg #[.string ByteArray.empty, .int .i64 0]).cells (G - (cap + 1)) = z := ⟨_, rfl⟩
      have hyl : y.size = (cap + 1 - i) * 2 := by rw [← hy]; simp [Builtin.zeroCells, Value.cells]
      have hzl : z.size = (G - (cap + 1)) * 2 := by rw [← hz]; simp [Builtin.zeroCells, Value.cells]
      obtain ⟨R0, hR0⟩ : ∃ R0 : Array Value, A.toArray ++ y ++ z = R0 := ⟨_, rfl⟩
      have hR0l : R0.toList = A ++ y.toList ++ z.toList := by rw [← hR0]; simp
      have hrz : ∀ ty, (Builtin.append_ #[150, 3] ty #[.slice (some ⟨g, 0, none⟩) i cap, .int .i64 ((cap : Int) + 1 - (i : Int))]).run Tryz.prog w = .ok (.slice (some ⟨w.heap.size, 0, none⟩) (cap + 1) G) (w.drew.alloc (.cells R0 290)) := fun ty => by
        have hik : i + (cap + 1 - i) = cap + 1 := by omega
        have h := Lib.run_append_grow_zeros w 150 3 ty 290 i0 _ .i64 .i64 Tryz.underlying150 Tryz.underlying3 hi0 hz0 (some ⟨g, 0, none⟩) i cap A hold (cap + 1 - i) (by omega) (by omega) (by omega) (by omega) (by rw [hz2]; omega) (by rw [hz2, hik]; exact growslice_fits (by omega) (by omega))
        rw [hik, hG, hy, hz, hR0, show ((cap + 1 - i : Nat) : Int) = (cap : Int) + 1 - (i : Int) by omega] at h
        exact h
      obtain ⟨R1, hR1⟩ : ∃ R1 : Array Value, R1 = (R0.toList.take (i * 2) ++ ecs x ++ R0.toList.drop (i * 2 + (ecs x).length)).toArray := ⟨_, rfl⟩
      obtain ⟨R2, hR2⟩ : ∃ R2 : Array Value, R2 = (R1.toList.take ((i + 1) * 2) ++ D ++ R1.toList.drop ((i + 1) * 2 + D.length)).toArray := ⟨_, rfl⟩
      have mixed : Tryz.prog.follows .mixedOrders = true := by kernel_rfl
      have hz2' : ¬ ((i : Int) = (cap : Int)) := by omega
      have hb0 : (0 : Int) ≤ (i : Int) + 1 := by omega
      have hb1 : (i : Int) + 1 ≤ (cap : Int) + 1 := by omega
      have hb5 : i + 1 ≤ cap + 1 := by omega
      have hb6 : ¬ (cap = i) := by omega
      have hb7 : ¬ (G = i + 1) := by omega
      have hb8 : ¬ (G = i) := by omega
      have htn : ((i : Int) + 1).toNat = i + 1 := by omega
      obtain ⟨N, hN⟩ : ∃ N, w.heap.size = N := ⟨_, rfl⟩
      obtain ⟨W1, hW1⟩ : ∃ W1, w.drew.alloc (.cells R0 290) = W1 := ⟨_, rfl⟩
      have hrzH : Hid ((Builtin.append_ #[150, 3] 150 #[.slice (some ⟨g, 0, none⟩) i cap, .int .i64 ((cap : Int) + 1 - (i : Int))]).run Tryz.prog w = .ok (.slice (some ⟨N, 0, none⟩) (cap + 1) G) W1) := Lib.hid (by rw [hrz 150, hN, hW1])
      have hBN : Blk W1 N 290 R0 := by rw [← hW1, ← hN]; exact Blk.new w.drew 290 R0
      have hBg : W1.heap[g]? = w.heap[g]? := by rw [← hW1]; exact Below.heap_alloc w.drew _ g hB.lt
      have hBx : Blk W1 g' tx (ecs x).toArray := by rw [← hW1]; exact Blk.alloc (W := w.drew) hx (.cells R0 290)
      have hNg : g ≠ N := by rw [← hN]; exact Nat.ne_of_lt hB.lt
      have hR0s : R0.size = (G * 2) := by
        rw [← Array.length_toList, hR0l]
        simp only [List.length_append, Array.length_toList, hyl, hzl]
        omega
      have hR1l : R1.toList = (A ++ y.toList ++ z.toList).take A.length ++ ecs x ++ (A ++ y.toList ++ z.toList).drop (A.length + (ecs x).length) := by
        rw [hR1, hR0l, show i * 2 = A.length by omega]
      have hR1s : R1.size = (G * 2) := by
        rw [← Array.length_toList, hR1, List.length_append, List.length_append, List.length_take, List.length_drop, Array.length_toList, hR0s]
        omega
      have hR2l : R2.toList = A ++ ecs x ++ D ++ z.toList := by
        rw [← grow_list A D (ecs x) y.toList z.toList 2 hxl (by rw [Array.length_toList, hyl, hDl]; omega), ← hR1l, hR2, show (i + 1) * 2 = A.length + 2 by omega]
      have hcpA : Hid ((Builtin.copy_ #[150, 150] 3 #[.slice (some ⟨N, i * 2, none⟩) (cap + 1 - i) (G - i), .slice (some ⟨g', 0, none⟩) 1 1]).run Tryz.prog W1 = .ok (goInt 1) (W1.setRow N R1)) := by
        rw [hR1]
        exact Lib.hid (run_copy_rows W1 150 150 3 290 N (i * 2) (cap + 1 - i) (G - i) ⟨g', 0, none⟩ 1 1 R0 290 (ecs x) 2 1 Tryz.underlying150 hsz hBN (by show min _ _ = _; omega) (by rw [hxl]) (hBx.mem 0 (fun j u h => by simpa using h)) (by rw [hR0s, hxl]; omega) h1x)
      obtain ⟨W2, hW2⟩ : ∃ W2, W1.setRow N R1 = W2 := ⟨_, rfl⟩
      have hBN2 : Blk W2 N 290 R1 := by rw [← hW2]; exact hBN.row R1
      have hBg2 : W2.heap[g]? = w.heap[g]? := by rw [← hW2]; exact (setRow_other W1 N g R1 hNg).trans hBg
      have hcpB : Hid ((Builtin.copy_ #[150, 150] 3 #[.slice (some ⟨N, (i + 1) * 2, none⟩) (cap - i) (G - (i + 1)), .slice (some ⟨g, i * 2, none⟩) (cap - i) (cap - i)]).run Tryz.prog W2.drew = .ok (goInt ((cap - i : Nat) : Int)) (W2.drew.setRow N R2)) := by
        rw [hR2]
        exact Lib.hid (run_copy_rows W2.drew 150 150 3 290 N ((i + 1) * 2) (cap - i) (G - (i + 1)) ⟨g, i * 2, none⟩ (cap - i) (cap - i) R1 290 D 2 (cap - i) Tryz.underlying150 hsz hBN2 (by show min _ _ = _; omega) (by rw [hDl]) (hsD W2.drew hBg2) (by rw [hR1s, hDl]; omega) hDo)
      have hin' : i ≤ cap := by omega
      have hcpA2 : Hid ((Builtin.copy_ #[150, 150] 3 #[.slice (some ⟨N, i * 2, none⟩) (cap + 1 - i) (G - i), .slice (some ⟨g', 0, none⟩) 1 1]).run Tryz.prog W1 = .ok (goInt 1) W2) := by rw [← hW2]; exact hcpA
      obtain ⟨W3, hW3⟩ : ∃ W3, W2.drew.setRow N R2 = W3 := ⟨_, rfl⟩
      have hcpB2 : Hid ((Builtin.copy_ #[150, 150] 3 #[.slice (some ⟨N, (i + 1) * 2, none⟩) (cap - i) (G - (i + 1)), .slice (some ⟨g, i * 2, none⟩) (cap - i) (cap - i)]).run Tryz.prog W2.drew = .ok (goInt ((cap - i : Nat) : Int)) W3) := by rw [← hW3]; exact hcpB
      have hW3b : Hid (W3.heap[N]? = some (.cells R2 290 (0, 0))) := Lib.hid (by rw [← hW3]; exact Blk.row (W := W2.drew) hBN2 R2)
      have hNs : Hid (w.heap.size ≤ N) := Lib.hid (by rw [hN]; exact Nat.le_refl _)
      have hNn : Hid (n₀ ≤ N) := Lib.hid (by rw [← hN]; exact hn0)
      have hR2s : Hid (R2.size = (G * 2)) := Lib.hid (by
        rw [← Array.length_toList, hR2l]
        simp only [List.length_append, Array.length_toList, hzl, hxl, hAl, hDl]
        omega)
      have hR2t : Hid (R2.toList.take ((cap + 1) * 2) = flat ecs (ins V i x)) := Lib.hid (by
        rw [hI.out, hR2l]
        exact List.take_left' (by rw [List.length_append, List.length_append]; omega))
      have hgrow : Hid (w.grownBy W3 (Value.slice (some ⟨g, 0, none⟩) cap cap).ownBlock) := Lib.hid (by
        rw [← hW3, ← hW2, ← hW1]
        refine ⟨rfl, rfl, rfl, by simp [World.setRow], fun k hk _ => ?_⟩
        have hk' : k ≠ N := by rw [← hN]; exact Nat.ne_of_lt hk
        exact ((setRow_other _ N k R2 hk').trans (setRow_other _ N k R1 hk')).trans (Below.heap_alloc w.drew _ k hk))
      clear hcpA hcpB hW1 hW2 hW3 hN hBN hBg hBx hBN2 hBg2 hR0 hR1 hR2 hR0l hR1l hR2l hB hx hsA hsD hgb hold hy hz hyl hzl hR0s hR1s hG hNg hrz
      go_enter Tryz.func257, Tryz.ntmps257
      go_wp2_with (first | (at_builtin; refine Lib.wpList_append_run _ rfl _ _ 150 3 rfl _ _ rfl rfl _ _ hrzH.out ?_) | simp only [hcpA2.out, Result.andThen_ok])
      go_region_law_o (refine step_copy_runI rfl _ _ 150 150 rfl (.slice (some ⟨N, (i + 1) * 2, none⟩) (cap - i) (G - (i + 1))) (.slice (some ⟨g, i * 2, none⟩) (cap - i) (cap - i)) (by simp [Act.eval, Act.put]) (by simp [Act.eval, Act.put]) hcpB2.out ?_)
      go_wp2_with fail
      go_ret
      refine ⟨N, G, rfl, ⟨?_, .inr ⟨N, G, R2, rfl, hNn.out, hW3b.out, hGn, hG63, hR2s.out, hR2t.out⟩⟩, hgrow.out, .inr hNs.out⟩
      rw [hI.out]; simp [hAl, hDl, hxl]; omega
end Go.Proofs.YtmilagppbepnbaaGreat
/- slices.Delete of one entry. Condition: the row is owned. -/
namespace Go.Proofs.YtmilagppbepnbaaGreat
open Go.RowKit
attribute [local go_sem] Oper.semAt_some


end Go.Proofs.YtmilagppbepnbaaGreat
/- A tree of files as plain data, and what is done to it. No condition. -/
namespace Go.Proofs.YtmilagppbepnbaaGreat
open Go.RowKit

abbrev Ents := List En
def nms (l : Ents) : List ByteArray := l.map (·.1)
/-- The number that a name stands for; 0 of none. -/
def lookM (l : Ents) (x : ByteArray) : Nat := if has (nms l) x then ((l[pos (nms l) x]?).map (·.2)).getD 0 else 0
def addM (l : Ents) (x : ByteArray) (n : Nat) : Ents := ins l (pos (nms l) x) (x, n)
def remM (l : Ents) (x : ByteArray) : Ents := if has (nms l) x then l.eraseIdx (pos (nms l) x) else l
def nameM : Ents → Nat → ByteArray
  | [], _ => ⟨#[]⟩
  | e :: l, n => if e.2 = n then e.1 else nameM l n
/-- An inode. -/
structure Ino where
  kind : Nat
  mode : Int
  links : Nat
  holds : Nat
  data : List UInt8
  ents : Ents
  parent : Nat
def Ino.isDir (I : Ino) : Bool := I.kind == 2
/-- The bits that are told of: of the owner. -/
def mayM (mode want : Int) : Bool := bits .and .i64 (wrap64 (mode.tdiv 64)) want == want
def Ino.may (I : Ino) (want : Int) : Bool := mayM I.mode want
def Ino.size (I : Ino) : Nat := if I.isDir then I.ents.length else I.data.length
def resM (l : List UInt8) (n : Nat) : List UInt8 := if n ≤ l.length then l.take n else l ++ List.replicate (n - l.length) 0
def modeM (m : Int) : Int := bits .and .i64 m 511

/-- The slots. -/
abbrev Fs := List (Option Ino)
def node (f : Fs) (n : Int) : Option Ino := if n < 1 then none else (f[(n - 1).toNat]?).join
def putAt (f : Fs) (n : Nat) (x : Option Ino) : Fs := f.set (n - 1) x
def isDir (f : Fs) (n : Int) : Bool := match node f n with
  | some I => I.isDir
  | none => false
/-- Where what is new lies: in the first free slot. -/
def free : Fs → Nat
  | [] => 0
  | none :: _ => 0
  | some _ :: l => free l + 1
def putNew (f : Fs) (I : Ino) : Fs := if free f < f.length then f.set (free f) (some I) else f ++ [some I]
def bytesM : Fs → Nat
  | [] => 0
  | none :: l => bytesM l
  | some I :: l => I.data.length + bytesM l
def countM : Fs → Nat
  | [] => 0
  | none :: l => countM l
  | some _ :: l => countM l + 1
def newM : Fs := [some ⟨2, 493, 1, 0, [], [], 1⟩]
/-- What nothing names or holds any more is let go. -/
def relM (f : Fs) (n : Nat) : Fs := match node f n with
  | some I => if I.links = 0 ∧ I.holds = 0 then putAt f n none else f
  | none => f

/-- What stands between the /. -/
def piecesGo : List UInt8 → List UInt8 → List (List UInt8)
  | acc, [] => if acc = [] then [] else [acc]
  | acc, b :: l => if b = 47 then (if acc = [] then piecesGo [] l else acc :: piecesGo [] l) else piecesGo (acc ++ [b]) l
def pieces (s : ByteArray) : List ByteArray := (piecesGo [] s.data.toList).map fun l => ⟨l.toArray⟩
def slashed (s : ByteArray) : Bool := s.data.toList.getLast? == some 47
/-- Where a way begins: the inode, and an error. -/
def beginM (dir : Int) (s : ByteArray) : Int × Nat :=
  if s.size = 0 then (0, 2) else if 256 < s.size then (0, 36) else if s.data.toList.head? = some 47 then (1, 0) else (dir, 0)
def enterM (f : Fs) (n : Int) : Nat := match node f n with
  | none => 20
  | some I => if I.isDir then (if I.may 1 then 0 else 13) else 20
def dotT : ByteArray := ⟨#[46]⟩
def dotsT : ByteArray := ⟨#[46, 46]⟩
/-- One step of a way. -/
def stepM (f : Fs) (n : Int) (p : ByteArray) : Int × Nat :=
  if enterM f n ≠ 0 then (0, enterM f n) else match node f n with
  | none => (0, 2)
  | some I =>
    if p = dotT then (if n = 0 then (0, 2) else (n, 0))
    else if p = dotsT then (if 0 < I.links ∧ I.parent ≠ 0 then ((I.parent : Int), 0) else (0, 2))
    else if 32 < p.size then (0, 36)
    else if lookM I.ents p = 0 then (0, 2) else ((lookM I.ents p : Int), 0)
def stepsM (f : Fs) : Int → List ByteArray → Int × Nat
  | n, [] => (n, 0)
  | n, p :: l => if (stepM f n p).2 ≠ 0 then (0, (stepM f n p).2) else stepsM f (stepM f n p).1 l
def walkM (f : Fs) (dir : Int) (s : ByteArray) : Int × Nat :=
  if (beginM dir s).2 ≠ 0 then (0, (beginM dir s).2)
  else if (stepsM f (beginM dir s).1 (pieces s)).2 ≠ 0 then (0, (stepsM f (beginM dir s).1 (pieces s)).2)
  else if slashed s && !isDir f (stepsM f (beginM dir s).1 (pieces s)).1 then (0, 20)
  else ((stepsM f (beginM dir s).1 (pieces s)).1, 0)
/-- What Walk answers. -/
def WalkM (f : Fs) (dir : Int) (s : ByteArray) : Int × Nat := if isDir f dir then walkM f dir s else (0, 9)
def aheadsM (f : Fs) : Int → ByteArray → List ByteArray → Int × ByteArray × Nat
  | n, last, [] => (n, last, 0)
  | n, last, p :: l =>
    if last.size = 0 then aheadsM f n p l
    else if (stepM f n last).2 ≠ 0 then (0, ⟨#[]⟩, (stepM f n last).2) else aheadsM f (stepM f n last).1 p l
def lastM (f : Fs) (r : Int × ByteArray × Nat) : Int × ByteArray × Nat :=
  if r.2.2 ≠ 0 then (0, ⟨#[]⟩, r.2.2)
  else if enterM f r.1 ≠ 0 then (0, ⟨#[]⟩, enterM f r.1)
  else if r.2.1.size = 0 ∨ r.2.1 = dotT ∨ r.2.1 = dotsT then (0, ⟨#[]⟩, 22)
  else if 32 < r.2.1.size then (0, ⟨#[]⟩, 36) else (r.1, r.2.1, 0)
def aheadM (f : Fs) (dir : Int) (s : ByteArray) : Int × ByteArray × Nat :=
  if (beginM dir s).2 ≠ 0 then (0, ⟨#[]⟩, (beginM dir s).2) else lastM f (aheadsM f (beginM dir s).1 ⟨#[]⟩ (pieces s))

/-- May a directory have a new entry of that name? -/
def mayAddM (f : Fs) (n : Int) (x : ByteArray) : Nat := match node f n with
  | none => 17
  | some I => if lookM I.ents x ≠ 0 then 17 else if I.links = 0 then 2 else if I.may 2 then 0 else 13
/-- An inode's entries anew. -/
def setEnts (f : Fs) (n : Nat) (g : Ents → Ents) : Fs := match node f n with
  | none => f
  | some I => putAt f n (some { I with ents := g I.ents })
def setLinks (f : Fs) (n : Nat) (g : Nat → Nat) : Fs := match node f n with
  | none => f
  | some I => putAt f n (some { I with links := g I.links })
/-- A new inode: its number or 0, the error, the tree. -/
def makeM (f : Fs) (n : Nat) (x : ByteArray) (I : Ino) : Nat × Nat × Fs :=
  if mayAddM f n x ≠ 0 then (0, mayAddM f n x, f)
  else if 100 ≤ countM f then (0, 23, f)
  else (free f + 1, 0, setEnts (putNew f { I with links := 1 }) n (fun l => addM l x (free f + 1)))
def unlinkM (f : Fs) (n : Nat) (x : ByteArray) : Fs := match node f n with
  | none => f
  | some I => relM (setLinks (setEnts f n (fun l => remM l x)) (lookM I.ents x) (· - 1)) (lookM I.ents x)
/-- An entry that a path names: its directory, its name, its inode, an error. -/
def namedM (f : Fs) (dir : Int) (s : ByteArray) : Int × ByteArray × Nat × Nat :=
  if !isDir f dir then (0, ⟨#[]⟩, 0, 9)
  else if (aheadM f dir s).2.2 ≠ 0 then (0, ⟨#[]⟩, 0, (aheadM f dir s).2.2)
  else match node f (aheadM f dir s).1 with
  | none => (0, ⟨#[]⟩, 0, 2)
  | some I => if lookM I.ents (aheadM f dir s).2.1 = 0 then (0, ⟨#[]⟩, 0, 2) else ((aheadM f dir s).1, (aheadM f dir s).2.1, lookM I.ents (aheadM f dir s).2.1, 0)
end Go.Proofs.YtmilagppbepnbaaGreat
/- A tree of files in memory. No condition. -/
namespace Go.Proofs.YtmilagppbepnbaaGreat
open Go.RowKit Go.PlainAid

/-- Only blocks of O may turn. -/
structure Frm (O : Nat → Prop) (w w' : World) : Prop where
  os : w'.os = w.os
  tape : w'.tape = w.tape
  output : w'.output = w.output
  size : w.heap.size ≤ w'.heap.size
  block : ∀ g, g < w.heap.size → ¬ O g → w'.heap[g]? = w.heap[g]?
theorem Frm.refl (O : Nat → Prop) (w : World) : Frm O w w := ⟨rfl, rfl, rfl, Nat.le_refl _, fun _ _ _ => rfl⟩
theorem Frm.trans {O O1 : Nat → Prop} {w w1 w2 : World} (h : Frm O w w1) (hg : ∀ g, O1 g → O g ∨ w.heap.size ≤ g) (h1 : Frm O1 w1 w2) : Frm O w w2 :=
  ⟨h1.os.trans h.os, h1.tape.trans h.tape, h1.output.trans h.output, Nat.le_trans h.size h1.size, fun g hlt hO => (h1.block g (Nat.lt_of_lt_of_le hlt h.size) (fun h' => by
    rcases hg g h' with h'' | h''
    · exact hO h''
    · omega)).trans (h.block g hlt hO)⟩
theorem Frm.below {O : Nat → Prop} {w w1 w2 : World} (h : Frm O w w1) (h1 : Below w1.heap.size w1 w2) : Frm O w w2 :=
  ⟨h1.os.trans h.os, h1.tape.trans h.tape, h1.output.trans h.output, Nat.le_trans h.size h1.size, fun g hlt hO => (h1.block g (Nat.lt_of_lt_of_le hlt h.size)).trans (h.block g hlt hO)⟩
theorem Frm.toBelow {O : Nat → Prop} {n₀ : Nat} {w w' : World} (h : Frm O w w') (hO : ∀ g, O g → n₀ ≤ g) (hn : n₀ ≤ w.heap.size) : Below n₀ w w' :=
  ⟨h.os, h.tape, h.output, h.size, fun g hg => h.block g (by omega) (fun h' => by have := hO g h'; omega)⟩
theorem Frm.mono {O O' : Nat → Prop} {w w' : World} (h : Frm O w w') (hO : ∀ g, O g → O' g) : Frm O' w w' := ⟨h.os, h.tape, h.output, h.size, fun g h1 h2 => h.block g h1 (fun h3 => h2 (hO g h3))⟩
theorem Frm.of_below {O : Nat → Prop} {w w' : World} (h : Below w.heap.size w w') : Frm O w w' := ⟨h.os, h.tape, h.output, h.size, fun g h1 _ => h.block g h1⟩
theorem Frm.grown {O : Nat → Prop} {w w1 w2 : World} {v : Option Nat} (h : Frm O w w1) (hg : w1.grownBy w2 v) (hv : ∀ g, v = some g → O g ∨ w.heap.size ≤ g) : Frm O w w2 :=
  ⟨hg.os.trans h.os, hg.tape.trans h.tape, hg.output.trans h.output, Nat.le_trans h.size hg.size, fun g h1 h2 => (hg.block g (Nat.lt_of_lt_of_le h1 h.size) (fun e => by
    rcases hv g e.symm with h3 | h3
    · exact h2 h3
    · omega)).trans (h.block g h1 h2)⟩
theorem Frm.setCell {O : Nat → Prop} {w w1 : World} (h : Frm O w w1) {a : Addr} (ha : O a.block ∨ w.heap.size ≤ a.block) (u : Value) : Frm O w (w1.setCell a u) :=
  ⟨h.os, h.tape, h.output, by simpa using h.size, fun g h1 h2 => (Below.heap_setCell _ _ _ _ (fun e => by
    rcases ha with h3 | h3
    · exact h2 (e ▸ h3)
    · omega)).trans (h.block g h1 h2)⟩
theorem Frm.alloc {O : Nat → Prop} {w w1 : World} (h : Frm O w w1) (o : Obj) : Frm O w (w1.alloc o) := h.below ((Below.refl _ _).alloc (Nat.le_refl _) _)

theorem Blk.keep {w w' : World} {g : Nat} {t : TypeId} {cs : Array Value} (h : Blk w g t cs) (hg : w'.heap[g]? = w.heap[g]?) : Blk w' g t cs := hg.trans h

def icells (I : Ino) (dv ev : Value) : Array Value := #[.int .i64 I.kind, .int .i64 I.mode, .int .i64 I.links, .int .i64 I.holds, dv, ev, .int .i64 I.parent]
/-- An inode in memory; all that it lies in is in S. -/
structure InoAt (w : World) (S : Nat → Prop) (q : Nat) (I : Ino) (dv ev : Value) : Prop where
  blk : Blk w q 152 (icells I dv ev)
  dat : w.ownsRow 0 5 1 dv I.data.length (Lib.byteCells I.data)
  ent : w.ownsRow 0 290 2 ev I.ents.length (flat ecs I.ents)
  sq : S q
  sd : ∀ g, dv.ownBlock = some g → S g
  se : ∀ g, ev.ownBlock = some g → S g
  lt : ∀ g, S g → g < w.heap.size
def InoIs (w : World) (S : Nat → Prop) (q : Nat) (I : Ino) : Prop := ∃ dv ev, InoAt w S q I dv ev
theorem InoAt.keep {w w' : World} {S : Nat → Prop} {q : Nat} {I : Ino} {dv ev : Value} (h : InoAt w S q I dv ev) (hs : w.heap.size ≤ w'.heap.size) (hb : ∀ g, S g → w'.heap[g]? = w.heap[g]?) : InoAt w' S q I dv ev :=
  ⟨h.blk.keep (hb q h.sq), row_keep h.dat (fun g hg => hb g (h.sd g hg)), row_keep h.ent (fun g hg => hb g (h.se g hg)), h.sq, h.sd, h.se, fun g hg => Nat.lt_of_lt_of_le (h.lt g hg) hs⟩
theorem InoAt.below {w w' : World} {S : Nat → Prop} {q : Nat} {I : Ino} {dv ev : Value} (h : InoAt w S q I dv ev) (hb : Below w.heap.size w w') : InoAt w' S q I dv ev := h.keep hb.size (fun g hg => hb.block g (h.lt g hg))
/-- What a step on one inode leaves. -/
def InoP (S : Nat → Prop) (w0 w : World) (q : Nat) (I : Ino) : Prop := ∃ S', InoIs w S' q I ∧ (∀ g, S' g → S g ∨ w0.heap.size ≤ g) ∧ Frm S w0 w

def ptrV (o : Option Nat) : Value := .pointer (o.map fun q => ⟨q, 0, none⟩)
def ptrs (ps : List (Option Nat)) : List Value := ps.map ptrV
/-- A tree in memory: B 0 is what the slots lie in, B (i + 1) what is the slot i's. -/
structure FsAt (w : World) (B : Nat → Nat → Prop) (p : Nat) (f : Fs) (sv : Value) (ps : List (Option Nat)) : Prop where
  blk : Blk w p 148 #[sv]
  row : w.ownsRow 0 153 1 sv ps.length (ptrs ps)
  len : ps.length = f.length
  bp : B 0 p
  bs : ∀ g, sv.ownBlock = some g → B 0 g
  some_ : ∀ (i : Nat) I, f[i]? = some (some I) → ∃ q, ps[i]? = some (some q) ∧ InoIs w (B (i + 1)) q I
  none_ : ∀ i : Nat, f[i]? = some none → ps[i]? = some none
  apart : ∀ i j g, B i g → B j g → i = j
  lt : ∀ i g, B i g → g < w.heap.size
def FsIs (w : World) (B : Nat → Nat → Prop) (p : Nat) (f : Fs) : Prop := ∃ sv ps, FsAt w B p f sv ps
def All (B : Nat → Nat → Prop) (g : Nat) : Prop := ∃ i, B i g
/-- What a step on a tree leaves. -/
def FsP (O : Nat → Prop) (w0 w : World) (p : Nat) (f : Fs) : Prop := ∃ B, FsIs w B p f ∧ (∀ g, All B g → O g ∨ w0.heap.size ≤ g) ∧ Frm O w0 w
theorem FsAt.keep {w w' : World} {B : Nat → Nat → Prop} {p : Nat} {f : Fs} {sv : Value} {ps : List (Option Nat)} (h : FsAt w B p f sv ps) (hs : w.heap.size ≤ w'.heap.size) (hb : ∀ i g, B i g → w'.heap[g]? = w.heap[g]?) : FsAt w' B p f sv ps :=
  ⟨h.blk.keep (hb 0 p h.bp), row_keep h.row (fun g hg => hb 0 g (h.bs g hg)), h.len, h.bp, h.bs, fun i I hi => by
    obtain ⟨q, h1, dv, ev, h2⟩ := h.some_ i I hi
    exact ⟨q, h1, dv, ev, h2.keep hs (fun g hg => hb _ g hg)⟩, h.none_, h.apart, fun i g hg => Nat.lt_of_lt_of_le (h.lt i g hg) hs⟩
theorem FsIs.keep {w w' : World} {B : Nat → Nat → Prop} {p : Nat} {f : Fs} (h : FsIs w B p f) (hs : w.heap.size ≤ w'.heap.size) (hb : ∀ i g, B i g → w'.heap[g]? = w.heap[g]?) : FsIs w' B p f := by
  obtain ⟨sv, ps, h⟩ := h
  exact ⟨sv, ps, h.keep hs hb⟩
theorem FsIs.lt {w : World} {B : Nat → Nat → Prop} {p : Nat} {f : Fs} (h : FsIs w B p f) : ∀ i g, B i g → g < w.heap.size := by
  obtain ⟨sv, ps, h⟩ := h
  exact h.lt
theorem FsIs.below {w w' : World} {B : Nat → Nat → Prop} {p : Nat} {f : Fs} (h : FsIs w B p f) (hb : Below w.heap.size w w') : FsIs w' B p f := h.keep hb.size (fun i g hg => hb.block g (h.lt i g hg))
theorem FsP.of {w w' : World} {B : Nat → Nat → Prop} {p : Nat} {f : Fs} (h : FsIs w B p f) (hb : Below w.heap.size w w') : FsP (All B) w w' p f := ⟨B, h.below hb, fun _ hg => .inl hg, Frm.of_below hb⟩
theorem FsP.trans {O : Nat → Prop} {w w1 w2 : World} {B : Nat → Nat → Prop} {p : Nat} {f : Fs} (hO : ∀ g, All B g → O g ∨ w.heap.size ≤ g) (hF : Frm O w w1) (h : FsP (All B) w1 w2 p f) : FsP O w w2 p f := by
  obtain ⟨B', h1, h2, h3⟩ := h
  exact ⟨B', h1, fun g hg => (h2 g hg).elim (hO g) (fun h => .inr (Nat.le_trans hF.size h)), hF.trans hO h3⟩

def upB (B : Nat → Nat → Prop) (i : Nat) (S : Nat → Prop) : Nat → Nat → Prop := fun j g => if j = i then S g else B j g
/-- One inode turns. -/
theorem FsAt.turn {w w' : World} {B : Nat → Nat → Prop} {p : Nat} {f : Fs} {sv : Value} {ps : List (Option Nat)} (h : FsAt w B p f sv ps) {i q : Nat} {I' : Ino} (hi : i < f.length) (hq : ps[i]? = some (some q)) {S' : Nat → Prop} (hI : InoIs w' S' q I') (hS : ∀ g, S' g → B (i + 1) g ∨ w.heap.size ≤ g) (hF : Frm (B (i + 1)) w w') :
    FsAt w' (upB B (i + 1) S') p (f.set i (some I')) sv ps := by
  have hb : ∀ j g, j ≠ i + 1 → B j g → w'.heap[g]? = w.heap[g]? := fun j g hj hg => hF.block g (h.lt j g hg) (fun h' => hj (h.apart _ _ _ hg h'))
  refine ⟨h.blk.keep (hb 0 p (by omega) h.bp), row_keep h.row (fun g hg => hb 0 g (by omega) (h.bs g hg)), by rw [h.len, List.length_set], ?_, fun g hg => ?_, fun j J hj => ?_, fun j hj => ?_, fun a b g ha hb' => ?_, fun a g ha => ?_⟩
  · unfold upB; rw [if_neg (by omega)]; exact h.bp
  · unfold upB; rw [if_neg (by omega)]; exact h.bs g hg
  · by_cases e : j = i
    · subst e
      rw [List.getElem?_set_self hi] at hj
      cases hj
      refine ⟨q, hq, ?_⟩
      unfold upB
      simpa using hI
    · rw [List.getElem?_set_ne (fun h => e h.symm)] at hj
      obtain ⟨q', h1, dv, ev, h2⟩ := h.some_ j J hj
      refine ⟨q', h1, dv, ev, ?_⟩
      have h3 := h2.keep hF.size (fun g hg => hb (j + 1) g (by omega) hg)
      have e2 : upB B (i + 1) S' (j + 1) = B (j + 1) := by funext g; unfold upB; rw [if_neg (by omega)]
      rw [e2]
      exact h3
  · by_cases e : j = i
    · subst e
      rw [List.getElem?_set_self hi] at hj
      cases hj
    · rw [List.getElem?_set_ne (fun h => e h.symm)] at hj
      exact h.none_ j hj
  · unfold upB at ha hb'
    split at ha
    · split at hb'
      · omega
      · rcases hS g ha with h1 | h1
        · have := h.apart _ _ _ h1 hb'; omega
        · have := h.lt _ _ hb'; omega
    · split at hb'
      · rcases hS g hb' with h1 | h1
        · have := h.apart _ _ _ h1 ha; omega
        · have := h.lt _ _ ha; omega
      · exact h.apart _ _ _ ha hb'
  · unfold upB at ha
    split at ha
    · obtain ⟨dv, ev, h1⟩ := hI
      exact h1.lt g ha
    · exact Nat.lt_of_lt_of_le (h.lt _ _ ha) hF.size
theorem FsAt.turnP {w w' : World} {B : Nat → Nat → Prop} {p : Nat} {f : Fs} {sv : Value} {ps : List (Option Nat)} (h : FsAt w B p f sv ps) {i q : Nat} {I' : Ino} (hi : i < f.length) (hq : ps[i]? = some (some q)) (hI : InoP (B (i + 1)) w w' q I') : FsP (All B) w w' p (f.set i (some I')) := by
  obtain ⟨S', h1, h2, h3⟩ := hI
  refine ⟨_, ⟨sv, ps, h.turn hi hq h1 h2 h3⟩, fun g ⟨j, hj⟩ => ?_, h3.mono (fun g hg => ⟨_, hg⟩)⟩
  unfold upB at hj
  split at hj
  · rcases h2 g hj with h4 | h4
    · exact .inl ⟨_, h4⟩
    · exact .inr h4
  · exact .inl ⟨_, hj⟩
theorem node_some {f : Fs} {n : Int} {I : Ino} (h : node f n = some I) : ∃ i : Nat, n = i + 1 ∧ i < f.length ∧ f[i]? = some (some I) := by
  unfold node at h
  split at h
  · cases h
  · refine ⟨(n - 1).toNat, by omega, ?_⟩
    cases hk : f[(n - 1).toNat]? with
    | none => rw [hk] at h; cases h
    | some o =>
      rw [hk] at h
      have h' : o = some I := h
      rw [h']
      exact ⟨(List.getElem?_eq_some_iff.1 hk).1, rfl⟩
theorem node_at {f : Fs} {i : Nat} {I : Ino} (h : f[i]? = some (some I)) : node f ((i : Int) + 1) = some I := by
  unfold node
  rw [if_neg (by omega), show ((i : Int) + 1 - 1).toNat = i by omega, h]
  rfl
end Go.Proofs.YtmilagppbepnbaaGreat
/- The search among a directory's entries. Condition: the row is owned and in order. -/
namespace Go.Proofs.YtmilagppbepnbaaGreat
open Go.RowKit Go.PlainAid
attribute [local go_sem] Oper.semAt_some

theorem cmp_any (a x : ByteArray) (n : Nat) (w : World) : Calls Tryz.prog 239 #[.agg #[.string a, .int .i64 n], .string x] w fun e w' => e = .returned (.int .i64 (cmpT a x)) ∧ Below w.heap.size w w' := by
  go_enter Tryz.func239, Tryz.ntmps239
  go_wp2_with (go_at_call 240; refine (Tryz.strings_Compare _ _ _).mono ?_; rintro e w' ⟨rfl, rfl⟩)
  go_ret
  exact ⟨rfl, (Below.refl _ _).alloc (Nat.le_refl _) _⟩

theorem pos_is {K : List ByteArray} {x : ByteArray} {i : Nat} (hi : i ≤ K.length) (h1 : ∀ t y, t < i → K[t]? = some y → lt y x = true) (h2 : ∀ t y, i ≤ t → K[t]? = some y → lt y x = false) : pos K x = i := by
  rcases Nat.lt_trichotomy (pos K x) i with h | h | h
  · have hl : pos K x < K.length := by omega
    have h3 := h1 (pos K x) _ h (List.getElem?_eq_getElem hl)
    have h4 : ∀ (L : List ByteArray) (hl : pos L x < L.length), lt L[pos L x] x = false := by
      intro L
      induction L with
      | nil => intro hl; simp at hl
      | cons k L ih =>
        intro hl
        by_cases hk : lt k x = true
        · have e : pos (k :: L) x = pos L x + 1 := by simp [pos, hk]
          simp only [e, List.getElem_cons_succ]
          exact ih (by rw [e] at hl; simp at hl; omega)
        · have e : pos (k :: L) x = 0 := by simp [pos, hk]
          simp only [e, List.getElem_cons_zero]
          simpa using hk
    rw [h4 K hl] at h3
    cases h3
  · exact h
  · have hl : i < K.length := by have := pos_le K x; omega
    have h3 := pos_below K x i _ h (List.getElem?_eq_getElem hl)
    rw [h2 i _ (Nat.le_refl _) (List.getElem?_eq_getElem hl)] at h3
    cases h3
theorem has_is {K : List ByteArray} {x : ByteArray} {y : ByteArray} (h : K[pos K x]? = some y) : has K x = decide (cmpT y x = 0) := by
  unfold has
  rw [h]
  simp [cmpT_eq]
theorem nms_at {l : Ents} {t : Nat} {y : ByteArray} (h : (nms l)[t]? = some y) : ∃ e, l[t]? = some e ∧ e.1 = y := by
  unfold nms at h
  rw [List.getElem?_map] at h
  cases he : l[t]? with
  | none => rw [he] at h; cases h
  | some e => rw [he] at h; exact ⟨e, rfl, Option.some.inj h⟩
theorem nms_of {l : Ents} {t : Nat} {e : En} (h : l[t]? = some e) : (nms l)[t]? = some e.1 := by unfold nms; rw [List.getElem?_map, h]; rfl

set_option maxHeartbeats 4000000 in
set_option maxRecDepth 100000 in
theorem search_any (l : Ents) (x : ByteArray) (ev : Value) (w : World) (hrow : w.ownsRow 0 290 2 ev l.length (flat ecs l)) (hlen : l.length ≤ 100000) (hs : Sorted (nms l)) :
    Calls Tryz.prog 238 #[ev, .string x, .func (.func 239) #[] #[]] w fun e w' => e = .returned (.tuple #[.int .i64 (pos (nms l) x : Nat), .bool (has (nms l) x)]) ∧ Below w.heap.size w w' := by
  obtain ⟨n, hn⟩ : ∃ n, l.length = n := ⟨_, rfl⟩
  have hnl : (nms l).length = n := by rw [← hn]; exact List.length_map ..
  obtain ⟨a, c, rfl⟩ := ownsRow_slice hrow
  have hat : ∀ (i : Nat) (y : En), l[i]? = some y → ∃ g, a = some ⟨g, 0, none⟩ ∧ g < w.heap.size ∧ w.cell? ⟨g, i * 2, none⟩ = some (.string y.1) ∧ w.cell? ⟨g, i * 2 + 1, none⟩ = some (.int .i64 y.2) := fun i y hy => by
    obtain ⟨g, cap, e, _, h1, _⟩ := row_at ecs_len hrow hy
    obtain ⟨rfl, rfl⟩ : a = some ⟨g, 0, none⟩ ∧ c = cap := by simpa using e
    have c0 := h1 0 _ rfl
    exact ⟨g, rfl, block_of_cell c0, c0, h1 1 _ rfl⟩
  have hatH := Lib.hid hat
  have hsH := Lib.hid hs
  have hnH := Lib.hid hn
  have hnlH := Lib.hid hnl
  rw [hn] at hlen ⊢
  clear hat hrow hs hn hnl
  go_enter Tryz.func238, Tryz.ntmps238
  go_wp2
  go_loopw [9, 10] (fun s9 s10 wr => ∃ lo hi : Nat, s9 = .int .i64 lo ∧ s10 = .int .i64 hi ∧ lo ≤ hi ∧ hi ≤ n ∧ Hid (Below w.heap.size w wr) ∧ Hid ((∀ t y, t < lo → (nms l)[t]? = some y → lt y x = true) ∧ (∀ t y, hi ≤ t → (nms l)[t]? = some y → lt y x = false))) (fun s9 s10 _ => (intOf s10).toNat - (intOf s9).toNat)
  case atStart => exact ⟨0, n, rfl, rfl, Nat.zero_le _, Nat.le_refl _, Lib.hid (Below.refl _ _), Lib.hid ⟨fun t y h => absurd h (Nat.not_lt_zero _), fun t y h1 h2 => by have := (List.getElem?_eq_some_iff.1 h2).1; have := hnlH.out; omega⟩⟩
  case round =>
    obtain ⟨lo, hi, rfl, rfl, hlh, hin, hb, hI⟩ := hrel
    by_cases hlt : lo < hi
    · obtain ⟨y, hy⟩ : ∃ y, l[(lo + hi) / 2]? = some y := ⟨_, List.getElem?_eq_getElem (by have := hnH.out; omega)⟩
      obtain ⟨g, rfl, hgl, c0, c1⟩ := hatH.out _ _ hy
      have d0 := (World.cell?_of_block (a := ⟨g, (lo + hi) / 2 * 2, none⟩) (hb.out.block g hgl)).trans c0
      have d1 := (World.cell?_of_block (a := ⟨g, (lo + hi) / 2 * 2 + 1, none⟩) (hb.out.block g hgl)).trans c1
      have hyN := Lib.hid (nms_of hy)
      obtain ⟨ya, yn⟩ := y
      dsimp only at d0 d1 hyN
      clear c0 c1 hy
      by_cases hc : cmpT ya x < 0
      · have hI2 : Hid ((∀ t y, t < (lo + hi) / 2 + 1 → (nms l)[t]? = some y → lt y x = true) ∧ (∀ t y, hi ≤ t → (nms l)[t]? = some y → lt y x = false)) := Lib.hid ⟨fun t y h1 h2 => by
          by_cases e : t = (lo + hi) / 2
          · rw [e, hyN.out] at h2; cases h2; exact (cmpT_lt _ _).1 hc
          · exact lt_trans (List.pairwise_iff_getElem.1 hsH.out t ((lo + hi) / 2) (List.getElem?_eq_some_iff.1 h2).1 (List.getElem?_eq_some_iff.1 hyN.out).1 (by omega) |> fun h => by rw [(List.getElem?_eq_some_iff.1 h2).2, (List.getElem?_eq_some_iff.1 hyN.out).2] at h; exact h) ((cmpT_lt _ _).1 hc), hI.out.2⟩
        go_wp2_with (go_at_call 239; refine (cmp_any ya x yn _).mono ?_; rintro e w' ⟨rfl, hb2⟩; have hb3 := Lib.hid (hb.out.trans (hb2.mono hb.out.size)); clear hb2)
        go_roundw
        case rel => exact ⟨(lo + hi) / 2 + 1, hi, by go_num, rfl, by omega, hin, hb3, hI2⟩
        case measure => simp [intOf]; omega
      · have hnlt : lt ya x = false := by
          cases h : lt ya x with
          | false => rfl
          | true => exact absurd ((cmpT_lt _ _).2 h) hc
        have hI2 : Hid ((∀ t y, t < lo → (nms l)[t]? = some y → lt y x = true) ∧ (∀ t y, (lo + hi) / 2 ≤ t → (nms l)[t]? = some y → lt y x = false)) := Lib.hid ⟨hI.out.1, fun t y h1 h2 => by
          by_cases e : t = (lo + hi) / 2
          · rw [e, hyN.out] at h2; cases h2; exact hnlt
          · cases h : lt y x with
            | false => rfl
            | true =>
              have h5 := List.pairwise_iff_getElem.1 hsH.out ((lo + hi) / 2) t (List.getElem?_eq_some_iff.1 hyN.out).1 (List.getElem?_eq_some_iff.1 h2).1 (by omega)
              rw [(List.getElem?_eq_some_iff.1 h2).2, (List.getElem?_eq_some_iff.1 hyN.out).2] at h5
              rw [lt_trans h5 h] at hnlt
              cases hnlt⟩
        go_wp2_with (go_at_call 239; refine (cmp_any ya x yn _).mono ?_; rintro e w' ⟨rfl, hb2⟩; have hb3 := Lib.hid (hb.out.trans (hb2.mono hb.out.size)); clear hb2)
        go_roundw
        case rel => exact ⟨lo, (lo + hi) / 2, rfl, by go_num, by omega, by omega, hb3, hI2⟩
        case measure => simp [intOf]; omega
    · obtain rfl : hi = lo := by omega
      have hpos : Hid (pos (nms l) x = hi) := Lib.hid (pos_is (by rw [hnlH.out]; exact hin) hI.out.1 hI.out.2)
      by_cases hin2 : hi < n
      · obtain ⟨y, hy⟩ : ∃ y, l[hi]? = some y := ⟨_, List.getElem?_eq_getElem (by have := hnH.out; omega)⟩
        obtain ⟨g, rfl, hgl, c0, c1⟩ := hatH.out _ _ hy
        have d0 := (World.cell?_of_block (a := ⟨g, hi * 2, none⟩) (hb.out.block g hgl)).trans c0
        have d1 := (World.cell?_of_block (a := ⟨g, hi * 2 + 1, none⟩) (hb.out.block g hgl)).trans c1
        have hhas : Hid (has (nms l) x = decide (cmpT y.1 x = 0)) := Lib.hid (has_is (by rw [hpos.out]; exact nms_of hy))
        obtain ⟨ya, yn⟩ := y
        dsimp only at d0 d1 hhas
        clear c0 c1 hy
        go_wp2_with (go_at_call 239; refine (cmp_any ya x yn _).mono ?_; rintro e w' ⟨rfl, hb2⟩; have hb3 := Lib.hid (hb.out.trans (hb2.mono hb.out.size)); clear hb2)
        go_ret2
        refine ⟨?_, hb3.out⟩
        rw [hpos.out, hhas.out]
        rfl
      · have hhas : Hid (has (nms l) x = false) := Lib.hid (by
          unfold has
          rw [List.getElem?_eq_none (by rw [hpos.out, hnlH.out]; omega)]
          rfl)
        go_wp2
        go_ret2
        exact ⟨by rw [hpos.out, hhas.out]; rfl, hb.out⟩
end Go.Proofs.YtmilagppbepnbaaGreat
/- What reads an inode: find, lookup, nameOf, isDir, may, size. Condition: the inode lies as stated. -/
namespace Go.Proofs.YtmilagppbepnbaaGreat
open Go.RowKit Go.PlainAid
attribute [local go_sem] Oper.semAt_some

structure Fine (I : Ino) : Prop where
  srt : Sorted (nms I.ents)
  el : I.ents.length ≤ 10000
  dl : I.data.length ≤ 70000
  ll : I.links ≤ 10000
  hl : I.holds ≤ 10000
section
variable {w : World} {S : Nat → Prop} {q : Nat} {I : Ino} {dv ev : Value}

theorem find_any (h : InoAt w S q I dv ev) (hf : Fine I) (x : ByteArray) : Calls Tryz.prog 187 #[.pointer (some ⟨q, 0, none⟩), .string x] w fun e w' => e = .returned (.tuple #[.int .i64 (pos (nms I.ents) x : Nat), .bool (has (nms I.ents) x)]) ∧ Below w.heap.size w w' := by
  have c5 : w.cell? ⟨q, 5, none⟩ = some ev := h.blk.cell 5
  have hs := Lib.hid (search_any I.ents x ev w h.ent (by have := hf.el; omega) hf.srt)
  clear h hf
  go_enter Tryz.func187, Tryz.ntmps187
  go_wp2_with (go_at_call 238; refine hs.out.mono ?_; rintro e w' ⟨rfl, hb⟩)
  go_ret2
  exact ⟨rfl, hb⟩
theorem lookM_no {l : Ents} {x : ByteArray} (h : has (nms l) x = false) : lookM l x = 0 := by unfold lookM; rw [if_neg (by rw [h]; decide)]
theorem lookM_yes {l : Ents} {x : ByteArray} (h : has (nms l) x = true) : ∃ y, l[pos (nms l) x]? = some y ∧ y.1 = x ∧ lookM l x = y.2 := by
  have h1 : (nms l)[pos (nms l) x]? = some x := of_decide_eq_true h
  obtain ⟨y, hy, he⟩ := nms_at h1
  refine ⟨y, hy, he, ?_⟩
  unfold lookM
  rw [if_pos h, hy]
  rfl
theorem lookup_any (h : InoAt w S q I dv ev) (hf : Fine I) (x : ByteArray) : Calls Tryz.prog 131 #[.pointer (some ⟨q, 0, none⟩), .string x] w fun e w' => e = .returned (.int .i64 (lookM I.ents x : Nat)) ∧ Below w.heap.size w w' := by
  have hfi := Lib.hid (find_any h hf x)
  have hq := h.lt q h.sq
  have c5 : w.cell? ⟨q, 5, none⟩ = some ev := h.blk.cell 5
  cases hh : has (nms I.ents) x with
  | false =>
    have hL := Lib.hid (lookM_no hh)
    rw [hL.out]
    have hhH := Lib.hid hh
    clear h hf hh
    go_enter Tryz.func131, Tryz.ntmps131
    go_wp2_with (go_at_call 187; refine hfi.out.mono ?_; rintro e w' ⟨rfl, hb⟩; rw [hhH.out])
    go_ret
    exact ⟨rfl, hb⟩
  | true =>
    obtain ⟨y, hy, _, hL⟩ := lookM_yes hh
    obtain ⟨g, cap, rfl, _, h1, _⟩ := row_at ecs_len h.ent hy
    have c1 : w.cell? ⟨g, pos (nms I.ents) x * 2 + 1, none⟩ = some (.int .i64 y.2) := h1 1 _ rfl
    have hg := block_of_cell c1
    have hl := (List.getElem?_eq_some_iff.1 hy).1
    have hel := hf.el
    obtain ⟨n, hn⟩ : ∃ n, I.ents.length = n := ⟨_, rfl⟩
    obtain ⟨i, hi⟩ : ∃ i, pos (nms I.ents) x = i := ⟨_, rfl⟩
    rw [hn] at c5 hl hel
    rw [hi] at c1 hl
    have hhH := Lib.hid hh
    have hLH := Lib.hid hL
    have hiH := Lib.hid hi
    have k1 := Lib.hid c1
    have k5 := Lib.hid c5
    rw [hLH.out]
    clear h hf hh hL hy h1 c1 c5 hn hi
    go_enter Tryz.func131, Tryz.ntmps131
    go_wp2_with (go_at_call 187; refine hfi.out.mono ?_; rintro e w' ⟨rfl, hb⟩; rw [hhH.out, hiH.out]; have d1 : w'.cell? ⟨g, i * 2 + 1, none⟩ = some (.int .i64 y.2) := (hb.cell hg).trans k1.out; have d5 : w'.cell? ⟨q, 5, none⟩ = some (.slice (some ⟨g, 0, none⟩) n cap) := (hb.cell hq).trans k5.out)
    go_ret
    exact ⟨rfl, hb⟩
theorem isDir_any (h : InoAt w S q I dv ev) : Calls Tryz.prog 132 #[.pointer (some ⟨q, 0, none⟩)] w fun e w' => e = .returned (.bool I.isDir) ∧ w' = w := by
  have c0 : w.cell? ⟨q, 0, none⟩ = some (.int .i64 I.kind) := h.blk.cell 0
  have hk : Hid (((I.kind : Int) == 2) = I.isDir) := Lib.hid (by
    unfold Ino.isDir
    rw [Bool.eq_iff_iff]
    simp only [beq_iff_eq]
    omega)
  clear h
  go_enter Tryz.func132, Tryz.ntmps132
  go_wp2
  go_ret
  exact ⟨by rw [hk.out]; rfl, rfl⟩
theorem may_any (h : InoAt w S q I dv ev) (want : Int) : Calls Tryz.prog 208 #[.pointer (some ⟨q, 0, none⟩), .int .i64 want] w fun e w' => e = .returned (.bool (I.may want)) ∧ w' = w := by
  have c1 : w.cell? ⟨q, 1, none⟩ = some (.int .i64 I.mode) := h.blk.cell 1
  clear h
  go_enter Tryz.func208, Tryz.ntmps208
  go_wp2
  go_ret
  exact ⟨rfl, rfl⟩
theorem size_any (h : InoAt w S q I dv ev) : Calls Tryz.prog 204 #[.pointer (some ⟨q, 0, none⟩)] w fun e w' => e = .returned (.int .i64 (I.size : Nat)) ∧ w' = w := by
  obtain ⟨a, c, rfl⟩ := ownsRow_slice h.dat
  obtain ⟨a2, c2, rfl⟩ := ownsRow_slice h.ent
  have c4 : w.cell? ⟨q, 4, none⟩ = some (.slice a I.data.length c) := h.blk.cell 4
  have c5 : w.cell? ⟨q, 5, none⟩ = some (.slice a2 I.ents.length c2) := h.blk.cell 5
  have hd := Lib.hid (isDir_any h)
  cases hk : I.isDir with
  | true =>
    have hs : Hid (I.size = I.ents.length) := Lib.hid (by unfold Ino.size; rw [if_pos hk])
    rw [hs.out]
    have hkH := Lib.hid hk
    clear h hk
    go_enter Tryz.func204, Tryz.ntmps204
    go_wp2_with (go_at_call 132; refine hd.out.mono ?_; rintro e w' ⟨rfl, rfl⟩; rw [hkH.out])
    go_ret
    exact ⟨rfl, rfl⟩
  | false =>
    have hs : Hid (I.size = I.data.length) := Lib.hid (by unfold Ino.size; rw [if_neg (by rw [hk]; decide)])
    rw [hs.out]
    have hkH := Lib.hid hk
    clear h hk
    go_enter Tryz.func204, Tryz.ntmps204
    go_wp2_with (go_at_call 132; refine hd.out.mono ?_; rintro e w' ⟨rfl, rfl⟩; rw [hkH.out])
    go_ret
    exact ⟨rfl, rfl⟩

set_option maxHeartbeats 1000000 in
theorem nameOf_any (h : InoAt w S q I dv ev) (hf : Fine I) (k : Nat) : Calls Tryz.prog 216 #[.pointer (some ⟨q, 0, none⟩), .int .i64 k] w fun e w' => e = .returned (.string (nameM I.ents k)) ∧ Below w.heap.size w w' := by
  obtain ⟨a2, c2, rfl⟩ := ownsRow_slice h.ent
  have c5 : w.cell? ⟨q, 5, none⟩ = some (.slice a2 I.ents.length c2) := h.blk.cell 5
  have hat : ∀ (i : Nat) (y : En), I.ents[i]? = some y → ∃ g, a2 = some ⟨g, 0, none⟩ ∧ g < w.heap.size ∧ w.cell? ⟨g, i * 2, none⟩ = some (.string y.1) ∧ w.cell? ⟨g, i * 2 + 1, none⟩ = some (.int .i64 y.2) := fun i y hy => by
    obtain ⟨g, cap, e, _, h1, _⟩ := row_at ecs_len h.ent hy
    obtain ⟨rfl, rfl⟩ : a2 = some ⟨g, 0, none⟩ ∧ c2 = cap := by simpa using e
    have c0 := h1 0 _ rfl
    exact ⟨g, rfl, block_of_cell c0, c0, h1 1 _ rfl⟩
  have hel := hf.el
  obtain ⟨L, hL⟩ : ∃ L, I.ents = L := ⟨_, rfl⟩
  rw [hL] at c5 hat hel ⊢
  obtain ⟨n, hn⟩ : ∃ n, L.length = n := ⟨_, rfl⟩
  have hatH := Lib.hid hat
  have hnH := Lib.hid hn
  rw [hn] at c5 hel
  clear h hf hat hL hn
  go_enter Tryz.func216, Tryz.ntmps216
  go_wp2
  go_loopw [12] (fun s12 wr => ∃ i : Nat, i ≤ n ∧ s12 = .int .i64 i ∧ Hid (Below w.heap.size w wr) ∧ Hid (nameM (L.drop i) k = nameM L k)) (fun s12 _ => n - (intOf s12).toNat)
  case atStart => exact ⟨0, Nat.zero_le _, by go_num, Lib.hid (Below.refl _ _), Lib.hid rfl⟩
  case round =>
    obtain ⟨i, hi, rfl, hb, hN⟩ := hrel
    by_cases hlt : i < n
    · obtain ⟨y, hy⟩ : ∃ y, L[i]? = some y := ⟨_, List.getElem?_eq_getElem (by have := hnH.out; omega)⟩
      obtain ⟨g, rfl, hgl, c0, c1⟩ := hatH.out _ _ hy
      have d0 := (World.cell?_of_block (a := ⟨g, i * 2, none⟩) (hb.out.block g hgl)).trans c0
      have d1 := (World.cell?_of_block (a := ⟨g, i * 2 + 1, none⟩) (hb.out.block g hgl)).trans c1
      have hdr : L.drop i = y :: L.drop (i + 1) := by
        obtain ⟨h1, h2⟩ := List.getElem?_eq_some_iff.1 hy
        rw [← h2, List.getElem_cons_drop]
      have hN2 := hN.out
      rw [hdr, nameM] at hN2
      obtain ⟨ya, yn⟩ := y
      dsimp only at d0 d1 hN2
      clear c0 c1 hy hdr
      by_cases hk : yn = k
      · rw [if_pos hk] at hN2
        have e1 : ((yn : Int) == (k : Int)) = true := by simp [hk]
        have hNH := Lib.hid hN2
        clear hk hN2
        go_wp2
        go_ret
        exact ⟨by rw [← hNH.out]; rfl, hb.out.alloc hb.out.size _⟩
      · rw [if_neg hk] at hN2
        have e1 : ((yn : Int) == (k : Int)) = false := beq_eq_false_iff_ne.2 (by omega)
        have hNH := Lib.hid hN2
        clear hk hN2
        go_wp2
        go_roundw
        case rel => exact ⟨i + 1, by omega, by go_num, Lib.hid (hb.out.alloc hb.out.size _), hNH⟩
        case measure => simp [intOf]; omega
    · have hN2 := hN.out
      rw [List.drop_eq_nil_of_le (by have := hnH.out; omega), nameM] at hN2
      have hNH := Lib.hid hN2
      clear hN2
      obtain rfl : i = n := by omega
      go_wp2
      go_ret
      exact ⟨by rw [← hNH.out]; rfl, hb.out⟩
end
end Go.Proofs.YtmilagppbepnbaaGreat
/- What writes an inode: its fields, entries, bytes. Condition: the inode lies as stated. -/
namespace Go.Proofs.YtmilagppbepnbaaGreat
open Go.RowKit Go.PlainAid
attribute [local go_sem] Oper.semAt_some

theorem rows_off {W : World} {b b' : Nat} {e e' : TypeId} {s s' n n' : Nat} {v v' : Value} {xs xs' : List Value} (hte : e ≠ e') (h : W.ownsRow b e s v n xs) (k : W.ownsRow b' e' s' v' n' xs') {g : Nat} (hg : v.ownBlock = some g) : v'.ownBlock ≠ some g := by
  rcases h.2 with ⟨rfl, _⟩ | ⟨g1, cap, cur, rfl, _, hb, _⟩
  · simp [Value.ownBlock] at hg
  · obtain rfl : g1 = g := by simpa [Value.ownBlock] using hg
    have hB : Blk W g1 e cur := hb
    exact fun e' => row_off hB hte k e'.symm
theorem row_set {w : World} {b : Nat} {e : TypeId} {s n : Nat} {v : Value} {xs : List Value} (h : w.ownsRow b e s v n xs) {q o : Nat} {t : TypeId} {cs : Array Value} (hB : Blk w q t cs) (hte : t ≠ e) (u : Value) : (w.setCell ⟨q, o, none⟩ u).ownsRow b e s v n xs :=
  row_keep h (fun g hg => Below.heap_setCell _ _ _ _ (fun e' => row_off hB hte h (by rw [hg, show g = q from e'])))
theorem blk_grown {w w1 : World} {q : Nat} {t : TypeId} {cs : Array Value} {v : Option Nat} (h : Blk w q t cs) (hg : w.grownBy w1 v) (hne : some q ≠ v) : Blk w1 q t cs := (hg.block q h.lt hne).trans h
theorem row_grown {w w1 : World} {b : Nat} {e : TypeId} {s n : Nat} {v : Value} {xs : List Value} {r : Option Nat} (h : w.ownsRow b e s v n xs) (hg : w.grownBy w1 r) (hne : ∀ g, v.ownBlock = some g → r ≠ some g) : w1.ownsRow b e s v n xs :=
  row_keep h (fun g hg2 => hg.block g (row_lt h hg2) (fun e' => hne g hg2 e'.symm))
theorem ends_ne : (152 : TypeId) ≠ 290 ∧ (152 : TypeId) ≠ 5 ∧ (5 : TypeId) ≠ 290 ∧ (148 : TypeId) ≠ 153 := by decide

section
variable {w : World} {S : Nat → Prop} {q : Nat} {I : Ino} {dv ev : Value}
/-- New entries. -/
theorem InoAt.newEnt (h : InoAt w S q I dv ev) {w1 w2 : World} (hb : Below w.heap.size w w1) (hg : w1.grownBy w2 ev.ownBlock) {v' : Value} {l : Ents} (hrow : w2.ownsRow 0 290 2 v' l.length (flat ecs l)) (hat : ∀ g, v'.ownBlock = some g → ev.ownBlock = some g ∨ w.heap.size ≤ g) :
    InoP S w (w2.setCell ⟨q, 5, none⟩ v') q { I with ents := l } := by
  have h1 := h.below hb
  have hB : Blk w2 q 152 (icells I dv ev) := blk_grown h1.blk hg (row_off h1.blk ends_ne.1 h1.ent)
  have hD := row_grown h1.dat hg (fun g hg2 => rows_off ends_ne.2.2.1 h1.dat h1.ent hg2)
  have hs2 : w.heap.size ≤ w2.heap.size := Nat.le_trans hb.size hg.size
  have hse : ∀ g, ev.ownBlock = some g → S g := h.se
  refine ⟨fun g => S g ∨ (w.heap.size ≤ g ∧ g < w2.heap.size), ⟨dv, v', ?_, row_set hD hB ends_ne.2.1 _, row_set hrow hB ends_ne.1 _, .inl h.sq, fun g hg2 => .inl (h.sd g hg2), fun g hg2 => ?_, fun g hg2 => ?_⟩, fun g hg2 => hg2.imp id (fun x => x.1), ?_⟩
  · exact hB.set_ 5 v'
  · rcases hat g hg2 with h3 | h3
    · exact .inl (hse g h3)
    · exact .inr ⟨h3, row_lt hrow hg2⟩
  · rw [World.size_setCell]
    rcases hg2 with h3 | h3
    · exact Nat.lt_of_lt_of_le (h.lt g h3) hs2
    · exact h3.2
  · exact ((Frm.of_below hb).grown hg (fun g hg2 => .inl (hse g hg2))).setCell (.inl h.sq) _
/-- A field of one number. -/
theorem InoAt.field (h : InoAt w S q I dv ev) {w1 : World} (hb : Below w.heap.size w w1) (o : Nat) (u : Value) (I' : Ino) (he : (icells I dv ev).setIfInBounds o u = icells I' dv ev) (h1 : I'.data = I.data) (h2 : I'.ents = I.ents) : InoP S w (w1.setCell ⟨q, o, none⟩ u) q I' := by
  have k := h.below hb
  refine ⟨S, ⟨dv, ev, ?_, ?_, ?_, h.sq, h.sd, h.se, fun g hg => ?_⟩, fun g hg => .inl hg, (Frm.of_below hb).setCell (.inl h.sq) _⟩
  · rw [← he]; exact k.blk.set_ o u
  · rw [h1]; exact row_set k.dat k.blk ends_ne.2.1 _
  · rw [h2]; exact row_set k.ent k.blk ends_ne.1 _
  · rw [World.size_setCell]; exact Nat.lt_of_lt_of_le (h.lt g hg) hb.size

theorem add_any (h : InoAt w S q I dv ev) (hf : Fine I) (x : ByteArray) (n : Nat) : Calls Tryz.prog 214 #[.pointer (some ⟨q, 0, none⟩), .string x, .int .i64 n] w fun e w' => e = .returned (.tuple #[]) ∧ InoP S w w' q { I with ents := addM I.ents x n } := by
  have hfi := Lib.hid (find_any h hf x)
  have hpl : pos (nms I.ents) x ≤ I.ents.length := by have := pos_le (nms I.ents) x; rw [show (nms I.ents).length = I.ents.length from List.length_map ..] at this; exact this
  obtain ⟨a, c, rfl⟩ := ownsRow_slice h.ent
  have hel := hf.el
  have hH := Lib.hid h
  clear hf
  obtain ⟨i, hi⟩ : ∃ i, pos (nms I.ents) x = i := ⟨_, rfl⟩
  rw [hi] at hfi hpl
  have haM : Hid (addM I.ents x n = ins I.ents i (x, n)) := Lib.hid (by unfold addM; rw [hi])
  rw [haM.out]
  obtain ⟨m, hm⟩ : ∃ m, I.ents.length = m := ⟨_, rfl⟩
  have hmH := Lib.hid hm
  have c5 : w.cell? ⟨q, 5, none⟩ = some (.slice a m c) := by rw [← hm]; exact h.blk.cell 5
  have hq := h.lt q h.sq
  have c5H := Lib.hid c5
  clear h hi hm c5
  go_enter Tryz.func214, Tryz.ntmps214
  go_wp2_with (go_at_call 187; refine hfi.out.mono ?_; rintro e w1 ⟨rfl, hb⟩; have k1 := Lib.hid (hH.out.below hb); have d5 : w1.cell? ⟨q, 5, none⟩ = some (.slice a m c) := (hb.cell hq).trans c5H.out; have hbH := Lib.hid hb; clear hb)
  have k2 := k1.out.ent
  rw [hmH.out] at k2
  refine (insert_e 0 I.ents (x, n) i (.slice a m c) w1.heap.size 290 _ (by omega) (by rw [hmH.out]; exact k2.alloc _) (Blk.new _ _ _) (fun e => by have := row_lt k2 e; omega) (Nat.zero_le _) (by omega)).mono ?_
  rintro e w2 ⟨gg, cc, rfl, hown, hgr, hat⟩
  have hP := Lib.hid (fun (v' : Value) (hv : v' = .slice (some ⟨gg, 0, none⟩) (I.ents.length + 1) cc) => (hH.out.newEnt (hbH.out.alloc hbH.out.size (.cells #[.string x, .int .i64 n] 290)) (by rw [hmH.out]; exact hgr) (v' := v') (l := ins I.ents i (x, n)) (by rw [ins_len _ _ _ hpl, hv]; exact hown) (fun g hg => by
    rw [hv] at hg
    obtain rfl : gg = g := by simpa [Value.ownBlock] using hg
    rcases hat with h3 | h3
    · exact .inl (by rw [hmH.out]; exact h3)
    · refine .inr ?_
      rw [World.size_alloc] at h3
      have := hbH.out.size
      omega)))
  have B2 := blk_grown (k1.out.blk.alloc (.cells #[.string x, .int .i64 n] 290)) hgr (by rw [← hmH.out]; exact row_off k1.out.blk ends_ne.1 k1.out.ent)
  have e5 : w2.cell? ⟨q, 5, none⟩ = some (.slice a m c) := by rw [← hmH.out]; exact B2.cell 5
  have f5 : w2.frozen? ⟨q, 5, none⟩ = false := B2.frozen 5
  clear hown hgr hat k2 B2
  go_wp2
  go_end0
  exact ⟨rfl, hP.out _ rfl⟩

end
end Go.Proofs.YtmilagppbepnbaaGreat
/- A file's bytes: resize. Condition: the inode lies as stated. -/
namespace Go.Proofs.YtmilagppbepnbaaGreat
open Go.RowKit Go.PlainAid
attribute [local go_sem] Oper.semAt_some



end Go.Proofs.YtmilagppbepnbaaGreat
/- The slots: get, cut, put; node, isDir, release. Condition: the tree lies as stated. -/
namespace Go.Proofs.YtmilagppbepnbaaGreat
open Go.RowKit Go.PlainAid
attribute [local go_sem] Oper.semAt_some

section
variable {w : World} {B : Nat → Nat → Prop} {p : Nat} {f : Fs} {sv : Value} {ps : List (Option Nat)}

/-- What lies in a slot's cell. -/
theorem slot_cell (h : FsAt w B p f sv ps) {i : Nat} {o : Option Nat} (hi : ps[i]? = some o) : ∃ g c, sv = .slice (some ⟨g, 0, none⟩) ps.length c ∧ w.cell? ⟨g, i, none⟩ = some (ptrV o) ∧ w.frozen? ⟨g, i, none⟩ = false := by
  have hl := (List.getElem?_eq_some_iff.1 hi).1
  obtain ⟨g, cap, e, _, _⟩ := h.row.form (by omega)
  refine ⟨g, cap, e, ?_, ?_⟩
  · have h9 := h.row
    rw [e] at h9
    rw [h9.cellAt _ (by omega)]
    simp [ptrs, hi]
  · have h9 := h.row
    rw [e] at h9
    exact h9.frozenAt i
theorem get_no (h : FsAt w B p f sv ps) {n : Int} (hn : node f n = none) (hlen : f.length ≤ 100000) : Calls Tryz.prog 102 #[.pointer (some ⟨p, 0, none⟩), .int .i64 n] w fun e w' => e = .returned (.pointer none) ∧ w' = w := by
  obtain ⟨a, c, rfl⟩ := ownsRow_slice h.row
  obtain ⟨m, hm⟩ : ∃ m, ps.length = m := ⟨_, rfl⟩
  have c0 : w.cell? ⟨p, 0, none⟩ = some (.slice a m c) := by rw [← hm]; exact h.blk.cell 0
  have hml : m ≤ 100000 := by rw [← hm, h.len]; exact hlen
  by_cases h1 : n < 1
  · clear h hn hm
    go_enter Tryz.func102, Tryz.ntmps102
    go_wp2
    go_ret
    exact ⟨rfl, rfl⟩
  · by_cases h2 : (m : Int) < n
    · clear h hn hm
      go_enter Tryz.func102, Tryz.ntmps102
      go_wp2
      go_ret
      exact ⟨rfl, rfl⟩
    · obtain ⟨i, rfl⟩ : ∃ i : Nat, n = i + 1 := ⟨(n - 1).toNat, by omega⟩
      have hil : i < f.length := by rw [← h.len, hm]; omega
      have hf : f[i]? = some none := by
        cases hk : f[i]? with
        | none => rw [List.getElem?_eq_none_iff] at hk; omega
        | some o =>
          cases o with
          | none => rfl
          | some I => rw [node_at hk] at hn; cases hn
      obtain ⟨g, c', e, hc, _⟩ := slot_cell h (h.none_ i hf)
      obtain ⟨rfl, rfl⟩ : a = some ⟨g, 0, none⟩ ∧ c = c' := by simpa using e
      have hc2 : w.cell? ⟨g, i, none⟩ = some (.pointer none) := hc
      have hi2 : i < m := by omega
      have hi3 : ¬ m < i + 1 := by omega
      clear h hn hm e hf hc
      go_enter Tryz.func102, Tryz.ntmps102
      go_wp2
      go_ret
      exact ⟨rfl, rfl⟩
theorem get_yes (h : FsAt w B p f sv ps) {i q : Nat} (hi : ps[i]? = some (some q)) (hlen : f.length ≤ 100000) : Calls Tryz.prog 102 #[.pointer (some ⟨p, 0, none⟩), .int .i64 ((i : Int) + 1)] w fun e w' => e = .returned (.pointer (some ⟨q, 0, none⟩)) ∧ w' = w := by
  obtain ⟨m, hm⟩ : ∃ m, ps.length = m := ⟨_, rfl⟩
  have hml : m ≤ 100000 := by rw [← hm, h.len]; exact hlen
  have hil : i < m := by rw [← hm]; exact (List.getElem?_eq_some_iff.1 hi).1
  obtain ⟨g, c, rfl, hc, _⟩ := slot_cell h hi
  have c0 : w.cell? ⟨p, 0, none⟩ = some (.slice (some ⟨g, 0, none⟩) m c) := by rw [← hm]; exact h.blk.cell 0
  have hc2 : w.cell? ⟨g, i, none⟩ = some (.pointer (some ⟨q, 0, none⟩)) := hc
  have hi3 : ¬ m < i + 1 := by omega
  clear h hm hi hc
  go_enter Tryz.func102, Tryz.ntmps102
  go_wp2
  go_ret
  exact ⟨rfl, rfl⟩
theorem node_no (h : FsAt w B p f sv ps) {n : Int} (hn : node f n = none) (hlen : f.length ≤ 100000) : Calls Tryz.prog 58 #[.pointer (some ⟨p, 0, none⟩), .int .i64 n] w fun e w' => e = .returned (.pointer none) ∧ w' = w := by
  have hg := Lib.hid (get_no h hn hlen)
  have c0 : w.cell? ⟨p, 0, none⟩ = some sv := h.blk.cell 0
  clear h hn
  go_enter Tryz.func58, Tryz.ntmps58
  go_wp2_with (go_at_call 102; refine hg.out.mono ?_; rintro e w' ⟨rfl, rfl⟩)
  go_ret
  exact ⟨rfl, rfl⟩
theorem node_yes (h : FsAt w B p f sv ps) {i q : Nat} (hi : ps[i]? = some (some q)) (hlen : f.length ≤ 100000) : Calls Tryz.prog 58 #[.pointer (some ⟨p, 0, none⟩), .int .i64 ((i : Int) + 1)] w fun e w' => e = .returned (.pointer (some ⟨q, 0, none⟩)) ∧ w' = w := by
  have hg := Lib.hid (get_yes h hi hlen)
  have c0 : w.cell? ⟨p, 0, none⟩ = some sv := h.blk.cell 0
  clear h hi
  go_enter Tryz.func58, Tryz.ntmps58
  go_wp2_with (go_at_call 102; refine hg.out.mono ?_; rintro e w' ⟨rfl, rfl⟩)
  go_ret
  exact ⟨rfl, rfl⟩
/-- Where an inode is. -/
theorem node_where (h : FsAt w B p f sv ps) {n : Int} {I : Ino} (hn : node f n = some I) : ∃ i q : Nat, n = i + 1 ∧ i < f.length ∧ f[i]? = some (some I) ∧ ps[i]? = some (some q) ∧ InoIs w (B (i + 1)) q I := by
  obtain ⟨i, h1, h2, h3⟩ := node_some hn
  obtain ⟨q, h4, h5⟩ := h.some_ i I h3
  exact ⟨i, q, h1, h2, h3, h4, h5⟩
theorem isDir_fs (h : FsAt w B p f sv ps) (n : Int) (hlen : f.length ≤ 100000) : Calls Tryz.prog 130 #[.pointer (some ⟨p, 0, none⟩), .int .i64 n] w fun e w' => e = .returned (.bool (isDir f n)) ∧ w' = w := by
  cases hn : node f n with
  | none =>
    have hc := Lib.hid (node_no h hn hlen)
    have hd : Hid (isDir f n = false) := Lib.hid (by unfold isDir; rw [hn])
    rw [hd.out]
    clear h hn
    go_enter Tryz.func130, Tryz.ntmps130
    go_wp2_with (go_at_call 58; refine hc.out.mono ?_; rintro e w' ⟨rfl, rfl⟩)
    go_ret
    exact ⟨rfl, rfl⟩
  | some I =>
    have hd : Hid (isDir f n = I.isDir) := Lib.hid (by unfold isDir; rw [hn])
    obtain ⟨i, q, rfl, _, _, h4, dv, ev, h5⟩ := node_where h hn
    have hc := Lib.hid (node_yes h h4 hlen)
    have hi := Lib.hid (isDir_any h5)
    rw [hd.out]
    clear h hn h4 h5
    go_enter Tryz.func130, Tryz.ntmps130
    go_wp2_with (first | (go_at_call 58; refine hc.out.mono ?_; rintro e w' ⟨rfl, rfl⟩) | (go_at_call 132; refine hi.out.mono ?_; rintro e w' ⟨rfl, rfl⟩))
    go_ret
    exact ⟨rfl, rfl⟩
end
end Go.Proofs.YtmilagppbepnbaaGreat
/- The slots: what is cut, what is put; release, New. Condition: the tree lies as stated. -/
namespace Go.Proofs.YtmilagppbepnbaaGreat
open Go.RowKit Go.PlainAid
attribute [local go_sem] Oper.semAt_some

theorem ptr_info : (Tryz.prog.info? 153).map (fun i => (i.zero, i.size, i.bytes)) = some (some (.pointer none), 1, 8) := by kernel_rfl
section
variable {w : World} {B : Nat → Nat → Prop} {p : Nat} {f : Fs} {sv : Value} {ps : List (Option Nat)}

theorem upB_same (B : Nat → Nat → Prop) (i : Nat) (S : Nat → Prop) : upB B i S i = S := by funext g; unfold upB; rw [if_pos rfl]
theorem upB_ne (B : Nat → Nat → Prop) {i j : Nat} (h : j ≠ i) (S : Nat → Prop) : upB B i S j = B j := by funext g; unfold upB; rw [if_neg h]
/-- A slot turns. -/
theorem FsAt.slot (h : FsAt w B p f sv ps) {i : Nat} (hi : i < f.length) {w1 : World} (hb : Below w.heap.size w w1) {o : Option Nat} {x : Option Ino} {S : Nat → Prop} (hx : (x = none ∧ o = none) ∨ ∃ I q, x = some I ∧ o = some q ∧ InoIs w1 S q I) (hS : ∀ g, S g → w.heap.size ≤ g ∧ g < w1.heap.size) {g c : Nat} (hsv : sv = .slice (some ⟨g, 0, none⟩) ps.length c) :
    FsP (All B) w (w1.setCell ⟨g, i, none⟩ (ptrV o)) p (f.set i x) := by
  subst hsv
  have hg0 : B 0 g := h.bs g rfl
  have hgl := h.lt 0 g hg0
  have hpg : p ≠ g := fun e => row_off h.blk ends_ne.2.2.2 h.row (by rw [e]; rfl)
  have hrow := (row_beneath h.row hb)
  obtain ⟨hr2, hg2⟩ := hrow.stored i (ptrV o)
  have hkeep : ∀ j k, B j k → k ≠ g → (w1.setCell ⟨g, i, none⟩ (ptrV o)).heap[k]? = w.heap[k]? := fun j k hk hne => (Below.heap_setCell _ _ _ _ (fun e => hne e)).trans (hb.block k (h.lt j k hk))
  have hps : (ptrs ps).set i (ptrV o) = ptrs (ps.set i o) := by unfold ptrs; rw [List.map_set]
  refine ⟨upB B (i + 1) S, ⟨.slice (some ⟨g, 0, none⟩) ps.length c, ps.set i o, ?_, ?_, ?_, ?_, ?_, fun j I hj => ?_, fun j hj => ?_, fun a b k ha hb' => ?_, fun a k ha => ?_⟩, fun k ⟨j, hj⟩ => ?_, ?_⟩
  · exact h.blk.keep (hkeep 0 p h.bp hpg)
  · rw [List.length_set, ← hps]; exact hr2
  · rw [List.length_set, List.length_set, h.len]
  · rw [upB_ne B (by omega)]; exact h.bp
  · rw [upB_ne B (by omega)]; intro k hk; exact h.bs k hk
  · by_cases e : j = i
    · subst e
      rw [List.getElem?_set_self hi] at hj
      rcases hx with ⟨h1, _⟩ | ⟨I2, q, h1, h2, dv, ev, h3⟩
      · rw [h1] at hj; cases hj
      · rw [h1] at hj
        cases hj
        refine ⟨q, by rw [h2, List.getElem?_set_self (by rw [h.len]; exact hi)], dv, ev, ?_⟩
        rw [upB_same]
        exact h3.keep (by simp) (fun k hk => Below.heap_setCell _ _ _ _ (fun e => by have := (hS k hk).1; have : k = g := e; omega))
    · rw [List.getElem?_set_ne (fun h => e h.symm)] at hj
      obtain ⟨q', h1, dv, ev, h2⟩ := h.some_ j I hj
      refine ⟨q', by rw [List.getElem?_set_ne (fun h => e h.symm)]; exact h1, dv, ev, ?_⟩
      rw [upB_ne B (by omega)]
      exact h2.keep (by rw [World.size_setCell]; exact hb.size) (fun k hk => hkeep (j + 1) k hk (fun e2 => by have := h.apart _ _ _ hk (e2 ▸ hg0); omega))
  · by_cases e : j = i
    · subst e
      rw [List.getElem?_set_self hi] at hj
      rcases hx with ⟨_, h2⟩ | ⟨I2, q, h1, _⟩
      · rw [h2, List.getElem?_set_self (by rw [h.len]; exact hi)]
      · rw [h1] at hj; cases hj
    · rw [List.getElem?_set_ne (fun h => e h.symm)] at hj ⊢
      exact h.none_ j hj
  · unfold upB at ha hb'
    split at ha
    · split at hb'
      · omega
      · have := (hS k ha).1; have := h.lt _ _ hb'; omega
    · split at hb'
      · have := (hS k hb').1; have := h.lt _ _ ha; omega
      · exact h.apart _ _ _ ha hb'
  · rw [World.size_setCell]
    unfold upB at ha
    split at ha
    · exact (hS k ha).2
    · exact Nat.lt_of_lt_of_le (h.lt _ _ ha) hb.size
  · unfold upB at hj
    split at hj
    · exact .inr (hS k hj).1
    · exact .inl ⟨_, hj⟩
  · exact (Frm.of_below hb).setCell (.inl ⟨0, hg0⟩) _
/-- A slot more. -/
theorem FsAt.push (h : FsAt w B p f sv ps) {w1 w2 : World} (hb : Below w.heap.size w w1) (hg : w1.grownBy w2 sv.ownBlock) {I : Ino} {q : Nat} {S : Nat → Prop} (hx : InoIs w1 S q I) (hS : ∀ g, S g → w.heap.size ≤ g ∧ g < w1.heap.size) {v' : Value} (hrow : w2.ownsRow 0 153 1 v' (ps.length + 1) (ptrs ps ++ [ptrV (some q)])) (hat : ∀ g, v'.ownBlock = some g → sv.ownBlock = some g ∨ w1.heap.size ≤ g) :
    FsP (All B) w (w2.setCell ⟨p, 0, none⟩ v') p (f ++ [some I]) := by
  have hpl := h.lt 0 p h.bp
  have hkeep : ∀ j k, B j k → k ≠ p → some k ≠ sv.ownBlock → (w2.setCell ⟨p, 0, none⟩ v').heap[k]? = w.heap[k]? := fun j k hk h1 h2 => (Below.heap_setCell _ _ _ _ (fun e => h1 e)).trans ((hg.block k (Nat.lt_of_lt_of_le (h.lt j k hk) hb.size) h2).trans (hb.block k (h.lt j k hk)))
  have hB2 : Blk w2 p 148 #[sv] := blk_grown (blk_beneath h.blk hb) hg (row_off h.blk ends_ne.2.2.2 h.row)
  have hS0 : ∀ g, v'.ownBlock = some g → B 0 g ∨ w1.heap.size ≤ g := fun g hg2 => (hat g hg2).imp (h.bs g) id
  have hs1 := hb.size
  have hs2 := hg.size
  refine ⟨fun j k => if j = 0 then B 0 k ∨ (w1.heap.size ≤ k ∧ k < w2.heap.size) else if j = f.length + 1 then S k else B j k, ⟨v', ps ++ [some q], ?_, ?_, ?_, ?_, ?_, fun j J hj => ?_, fun j hj => ?_, fun a b k ha hb' => ?_, fun a k ha => ?_⟩, fun k ⟨j, hj⟩ => ?_, ?_⟩
  · exact hB2.set_ 0 v'
  · rw [List.length_append]
    unfold ptrs at hrow ⊢
    rw [List.map_append]
    exact row_set hrow hB2 ends_ne.2.2.2 _
  · rw [List.length_append, List.length_append, h.len]; rfl
  · rw [if_pos rfl]; exact .inl h.bp
  · intro g hg2
    rw [if_pos rfl]
    rcases hS0 g hg2 with h3 | h3
    · exact .inl h3
    · exact .inr ⟨h3, row_lt hrow hg2⟩
  · by_cases e : j < f.length
    · rw [List.getElem?_append_left e] at hj
      obtain ⟨q', h1, dv, ev, h2⟩ := h.some_ j J hj
      refine ⟨q', by rw [List.getElem?_append_left (by rw [h.len]; exact e)]; exact h1, dv, ev, ?_⟩
      have e2 : (fun k => if j + 1 = 0 then B 0 k ∨ (w1.heap.size ≤ k ∧ k < w2.heap.size) else if j + 1 = f.length + 1 then S k else B (j + 1) k) = B (j + 1) := by funext k; rw [if_neg (by omega), if_neg (by omega)]
      show InoAt _ (fun k => if j + 1 = 0 then B 0 k ∨ (w1.heap.size ≤ k ∧ k < w2.heap.size) else if j + 1 = f.length + 1 then S k else B (j + 1) k) _ _ _ _
      rw [e2]
      exact h2.keep (by rw [World.size_setCell]; omega) (fun k hk => hkeep (j + 1) k hk (fun e3 => by have := h.apart _ _ _ hk (e3 ▸ h.bp); omega) (fun e3 => by have := h.apart _ _ _ hk (h.bs k e3.symm); omega))
    · rw [List.getElem?_append_right (by omega)] at hj
      cases hk : j - f.length with
      | succ n => rw [hk] at hj; simp at hj
      | zero =>
        rw [hk] at hj
        cases hj
        obtain rfl : j = f.length := by omega
        obtain ⟨dv, ev, h3⟩ := hx
        refine ⟨q, by rw [List.getElem?_append_right (by rw [h.len]; exact Nat.le_refl _), h.len, Nat.sub_self]; rfl, dv, ev, ?_⟩
        have e2 : (fun k => if f.length + 1 = 0 then B 0 k ∨ (w1.heap.size ≤ k ∧ k < w2.heap.size) else if f.length + 1 = f.length + 1 then S k else B (f.length + 1) k) = S := by funext k; rw [if_neg (by omega), if_pos rfl]
        show InoAt _ (fun k => if f.length + 1 = 0 then B 0 k ∨ (w1.heap.size ≤ k ∧ k < w2.heap.size) else if f.length + 1 = f.length + 1 then S k else B (f.length + 1) k) _ _ _ _
        rw [e2]
        exact h3.keep (by rw [World.size_setCell]; exact hs2) (fun k hk => (Below.heap_setCell _ _ _ _ (fun e3 => by have := (hS k hk).1; have : k = p := e3; omega)).trans (hg.block k (hS k hk).2 (fun e3 => by have := (hS k hk).1; have := h.lt _ _ (h.bs k e3.symm); omega)))
  · by_cases e : j < f.length
    · rw [List.getElem?_append_left e] at hj
      rw [List.getElem?_append_left (by rw [h.len]; exact e)]
      exact h.none_ j hj
    · rw [List.getElem?_append_right (by omega)] at hj
      cases hk : j - f.length with
      | succ n => rw [hk] at hj; simp at hj
      | zero => rw [hk] at hj; cases hj
  · by_cases a0 : a = 0
    · by_cases b0 : b = 0
      · omega
      · rw [if_pos a0] at ha
        rw [if_neg b0] at hb'
        by_cases b1 : b = f.length + 1
        · rw [if_pos b1] at hb'
          have := hS k hb'
          rcases ha with h3 | h3
          · have := h.lt _ _ h3; omega
          · omega
        · rw [if_neg b1] at hb'
          have := h.lt _ _ hb'
          rcases ha with h3 | h3
          · exact absurd (h.apart _ _ _ h3 hb') (by omega)
          · omega
    · rw [if_neg a0] at ha
      by_cases b0 : b = 0
      · rw [if_pos b0] at hb'
        by_cases a1 : a = f.length + 1
        · rw [if_pos a1] at ha
          have := hS k ha
          rcases hb' with h3 | h3
          · have := h.lt _ _ h3; omega
          · omega
        · rw [if_neg a1] at ha
          have := h.lt _ _ ha
          rcases hb' with h3 | h3
          · exact absurd (h.apart _ _ _ h3 ha) (by omega)
          · omega
      · rw [if_neg b0] at hb'
        by_cases a1 : a = f.length + 1
        · by_cases b1 : b = f.length + 1
          · omega
          · rw [if_pos a1] at ha
            rw [if_neg b1] at hb'
            have := hS k ha
            have := h.lt _ _ hb'
            omega
        · rw [if_neg a1] at ha
          by_cases b1 : b = f.length + 1
          · rw [if_pos b1] at hb'
            have := hS k hb'
            have := h.lt _ _ ha
            omega
          · rw [if_neg b1] at hb'
            exact h.apart _ _ _ ha hb'
  · rw [World.size_setCell]
    split at ha
    · rcases ha with h3 | h3
      · have := h.lt _ _ h3; omega
      · exact h3.2
    · split at ha
      · have := hS k ha; omega
      · have := h.lt _ _ ha; omega
  · dsimp only at hj
    split at hj
    · rcases hj with h3 | h3
      · exact .inl ⟨_, h3⟩
      · exact .inr (by omega)
    · split at hj
      · exact .inr (hS k hj).1
      · exact .inl ⟨_, hj⟩
  · exact (((Frm.of_below hb).grown hg (fun g hg2 => .inl ⟨0, h.bs g hg2⟩))).setCell (.inl ⟨0, h.bp⟩) _

theorem cut_any (h : FsAt w B p f sv ps) {i : Nat} (hi : i < f.length) (hlen : f.length ≤ 100000) : Calls Tryz.prog 273 #[.pointer (some ⟨p, 0, none⟩), .int .i64 ((i : Int) + 1)] w fun e w' => e = .returned (.tuple #[]) ∧ FsP (All B) w w' p (f.set i none) := by
  obtain ⟨o, ho⟩ : ∃ o, ps[i]? = some o := ⟨_, List.getElem?_eq_getElem (by rw [h.len]; exact hi)⟩
  obtain ⟨m, hm⟩ : ∃ m, ps.length = m := ⟨_, rfl⟩
  have hil : i < m := by rw [← hm, h.len]; exact hi
  have hml : m ≤ 100000 := by rw [← hm, h.len]; exact hlen
  obtain ⟨g, c, e, hc, hf⟩ := slot_cell h ho
  have hP := Lib.hid (h.slot hi (Below.refl _ _) (o := none) (x := none) (S := fun _ => False) (.inl ⟨rfl, rfl⟩) (fun g h => h.elim) e)
  subst e
  have c0 : w.cell? ⟨p, 0, none⟩ = some (.slice (some ⟨g, 0, none⟩) m c) := by rw [← hm]; exact h.blk.cell 0
  have hi3 : ¬ m < i + 1 := by omega
  clear h hm ho hi hlen
  go_enter Tryz.func273, Tryz.ntmps273
  go_wp2
  go_end0
  exact ⟨rfl, hP.out⟩
end
end Go.Proofs.YtmilagppbepnbaaGreat
/- The slots: put, release; New. Condition: the tree lies as stated. -/
namespace Go.Proofs.YtmilagppbepnbaaGreat
open Go.RowKit Go.PlainAid
attribute [local go_sem] Oper.semAt_some

theorem free_le : ∀ f : Fs, free f ≤ f.length
  | [] => Nat.le_refl _
  | none :: _ => Nat.zero_le _
  | some _ :: l => by have := free_le l; simp only [free, List.length_cons]; omega
theorem free_some : ∀ (f : Fs) (j : Nat), j < free f → ∃ I, f[j]? = some (some I)
  | [], j, h => by simp [free] at h
  | none :: _, j, h => by simp [free] at h
  | some I :: l, 0, _ => ⟨I, rfl⟩
  | some _ :: l, j + 1, h => by
    obtain ⟨I, hI⟩ := free_some l j (by simp only [free] at h; omega)
    exact ⟨I, by simpa using hI⟩
theorem free_none : ∀ f : Fs, free f < f.length → f[free f]? = some none
  | [], h => by simp [free] at h
  | none :: _, _ => rfl
  | some _ :: l, h => by
    have := free_none l (by simp only [free, List.length_cons] at h; omega)
    simpa [free] using this
section
variable {w : World} {B : Nat → Nat → Prop} {p : Nat} {f : Fs} {sv : Value} {ps : List (Option Nat)}
set_option maxRecDepth 100000 in
set_option maxHeartbeats 2000000 in
theorem put_any (h : FsAt w B p f sv ps) (I : Ino) (hd : I.data = []) (he : I.ents = []) (hlen : f.length ≤ 10000) :
    Calls Tryz.prog 57 #[.pointer (some ⟨p, 0, none⟩), .agg #[.int .i64 I.kind, .int .i64 I.mode, .int .i64 I.links, .int .i64 I.holds, .slice none 0 0, .slice none 0 0, .int .i64 I.parent]] w fun e w' =>
      e = .returned (.int .i64 ((free f : Nat) + 1)) ∧ FsP (All B) w w' p (putNew f I) := by
  obtain ⟨i0, hi0, hz0, hz1, hz2⟩ := info_parts ptr_info
  obtain ⟨a, c, rfl⟩ := ownsRow_slice h.row
  obtain ⟨m, hm⟩ : ∃ m, ps.length = m := ⟨_, rfl⟩
  have hml : m ≤ 10000 := by rw [← hm, h.len]; exact hlen
  have hfm : Hid (f.length = m) := Lib.hid (by rw [← hm, h.len])
  have hH := Lib.hid h
  have hmH := Lib.hid hm
  have hfle := Lib.hid (free_le f)
  have hpl := h.lt 0 p h.bp
  obtain ⟨W0, hW0⟩ : ∃ x, w.alloc (.cells #[.int .i64 I.kind, .int .i64 I.mode, .int .i64 I.links, .int .i64 I.holds, .slice none 0 0, .slice none 0 0, .int .i64 I.parent] 152) = x := ⟨_, rfl⟩
  have hb0 : Below w.heap.size w W0 := by rw [← hW0]; exact (Below.refl _ _).alloc (Nat.le_refl _) _
  have hs0 : W0.heap.size = w.heap.size + 1 := by rw [← hW0]; simp
  obtain ⟨q, hq⟩ : ∃ q, w.heap.size = q := ⟨_, rfl⟩
  have hI : Hid (InoIs W0 (fun g => g = q) q I) := Lib.hid (by
    have hB : Blk W0 q 152 (icells I (.slice none 0 0) (.slice none 0 0)) := by rw [← hW0, ← hq]; exact Blk.new _ _ _
    refine ⟨_, _, hB, by rw [hd]; exact World.ownsRow_nil _ _ _ _, by rw [he]; exact World.ownsRow_nil _ _ _ _, rfl, fun g hg => by simp [Value.ownBlock] at hg, fun g hg => by simp [Value.ownBlock] at hg, fun g hg => by rw [hg]; omega⟩)
  have k0 := Lib.hid (hH.out.keep hb0.size (fun i g hg => hb0.block g (hH.out.lt i g hg)))
  have hbH := Lib.hid hb0
  have hW0H := Lib.hid hW0
  have hs0H := Lib.hid hs0
  have hqH := Lib.hid hq
  have c0 : W0.cell? ⟨p, 0, none⟩ = some (.slice a m c) := by rw [← hm]; exact k0.out.blk.cell 0
  have f0 : W0.frozen? ⟨p, 0, none⟩ = false := k0.out.blk.frozen 0
  clear h hm hb0 hW0 hs0 hd he hlen hq
  go_enter Tryz.func57, Tryz.ntmps57
  go_wp2_with (rw [hW0H.out, hqH.out])
  go_loopw [12] (fun s12 wr => ∃ i : Nat, i ≤ m ∧ s12 = .int .i64 i ∧ W0 = wr ∧ i ≤ free f) (fun s12 _ => m - (intOf s12).toNat)
  case atStart => exact ⟨0, Nat.zero_le _, by go_num, rfl, Nat.zero_le _⟩
  case round =>
    obtain ⟨i, hi, rfl, rfl, hfr⟩ := hrel
    by_cases hlt : i < m
    · by_cases hif : i = free f
      · have hn := free_none f (by rw [← hif, hfm.out]; exact hlt)
        obtain ⟨g, c', e, hc, hfz⟩ := slot_cell k0.out (k0.out.none_ _ hn)
        have hP := Lib.hid (hH.out.slot (i := free f) (by rw [← hif, hfm.out]; exact hlt) hbH.out (o := some q) (x := some I) (S := fun g => g = q) (.inr ⟨I, q, rfl, rfl, hI.out⟩) (fun g hg => by rw [hg]; have := hs0H.out; have := hqH.out; omega) e)
        rw [hmH.out] at e
        obtain ⟨rfl, rfl⟩ : a = some ⟨g, 0, none⟩ ∧ c = c' := by simpa using e
        rw [← hif] at hc hfz
        have hc2 : W0.cell? ⟨g, i, none⟩ = some (.pointer none) := hc
        have hpn : Hid (putNew f I = f.set (free f) (some I)) := Lib.hid (by unfold putNew; rw [if_pos (by rw [← hif, hfm.out]; exact hlt)])
        have hifH := Lib.hid hif
        clear hn e hc hif
        go_wp2
        go_ret
        refine ⟨by rw [← hifH.out]; rfl, ?_⟩
        rw [hpn.out, hifH.out]
        exact hP.out
      · obtain ⟨J, hJ⟩ := free_some f i (by omega)
        obtain ⟨q', hq', _⟩ := k0.out.some_ i J hJ
        obtain ⟨g, c', e, hc, hfz⟩ := slot_cell k0.out hq'
        rw [hmH.out] at e
        obtain ⟨rfl, rfl⟩ : a = some ⟨g, 0, none⟩ ∧ c = c' := by simpa using e
        have hc2 : W0.cell? ⟨g, i, none⟩ = some (.pointer (some ⟨q', 0, none⟩)) := hc
        have hfr' : i + 1 ≤ free f := by omega
        clear e hc hq' hJ hif hfz
        go_wp2
        go_roundw
        case rel => exact ⟨i + 1, by omega, by go_num, trivial, hfr'⟩
        case measure => simp [intOf]; omega
    · obtain rfl : i = m := by omega
      have hfe : Hid (free f = i) := Lib.hid (by have := hfle.out; have := hfm.out; omega)
      have hpn : Hid (putNew f I = f ++ [some I]) := Lib.hid (by unfold putNew; rw [if_neg (by rw [hfe.out, hfm.out]; omega)])
      have k1 := k0.out.row
      rw [hmH.out] at k1
      have k1H := Lib.hid k1
      clear k1
      go_wp2_with (at_builtin; refine wpList_append_lies _ rfl _ _ 144 rfl 0 153 i0 _ 1 _ Tryz.underlying144 hi0 hz0 hz1 hz2 rfl (by decide) (.slice a i c) i _ rfl (k1H.out.alloc _) ⟨W0.heap.size, 0, none⟩ 1 1 [ptrV (some q)] rfl (by rfl) (fun j u hj => by
          rw [Addr.add_lit, Nat.zero_add]
          obtain ⟨rfl, rfl⟩ : j = 0 ∧ u = ptrV (some q) := by
            cases j with
            | zero => simp at hj; exact ⟨rfl, hj.symm⟩
            | succ j => simp at hj
          exact (Blk.new _ _ _).cell 0) (fun u hu => by simp at hu; subst hu; rfl) (by decide) (by unfold maxLen; omega) (by omega) (Nat.zero_le _) _ rfl ?_; intro gg cc w' hown' hgr hat _
                   have hB2 := blk_grown (k0.out.blk.alloc (.cells #[.pointer (some ⟨q, 0, none⟩)] 153)) hgr (by have h9 := row_off k0.out.blk ends_ne.2.2.2 k0.out.row; rw [hmH.out] at h9; exact h9)
                   have d0 : w'.cell? ⟨p, 0, none⟩ = some (.slice a i c) := by rw [← hmH.out]; exact hB2.cell 0
                   have g0 : w'.frozen? ⟨p, 0, none⟩ = false := hB2.frozen 0
                   have hP := Lib.hid (hH.out.push (w1 := W0.alloc (.cells #[.pointer (some ⟨q, 0, none⟩)] 153)) (hbH.out.alloc hbH.out.size _) (by rw [hmH.out]; exact hgr) (I := I) (q := q) (S := fun g => g = q) (by
                     obtain ⟨dv, ev, h9⟩ := hI.out
                     exact ⟨dv, ev, h9.below ((Below.refl _ _).alloc (Nat.le_refl _) _)⟩) (fun g hg => by rw [hg, World.size_alloc]; have := hs0H.out; have := hqH.out; omega) (v' := .slice (some ⟨gg, 0, none⟩) (i + 1) cc) (by rw [hmH.out]; exact hown') (fun g hg => by
                     obtain rfl : gg = g := by simpa [Value.ownBlock] using hg
                     rcases hat with h9 | h9
                     · exact .inl (by rw [hmH.out]; exact h9)
                     · exact .inr (Nat.le_of_eq h9.symm)))
                   clear hown' hgr hat hB2)
      all_goals
        go_ret
        rw [hfe.out, hpn.out]
        exact ⟨rfl, hP.out⟩
end
end Go.Proofs.YtmilagppbepnbaaGreat
/- release, New, unlink, mayAdd. Condition: the tree lies as stated. -/
namespace Go.Proofs.YtmilagppbepnbaaGreat
open Go.RowKit Go.PlainAid
attribute [local go_sem] Oper.semAt_some

/-- All inodes are of a size. -/
def FineF (f : Fs) : Prop := f.length ≤ 10000 ∧ ∀ (i : Nat) I, f[i]? = some (some I) → Fine I
section
variable {w : World} {B : Nat → Nat → Prop} {p : Nat} {f : Fs} {sv : Value} {ps : List (Option Nat)}
theorem FsAt.same (h : FsAt w B p f sv ps) : FsP (All B) w w p f := FsP.of ⟨sv, ps, h⟩ (Below.refl _ _)
theorem relM_at {i : Nat} {I : Ino} (hi : f[i]? = some (some I)) : relM f (i + 1) = if I.links = 0 ∧ I.holds = 0 then f.set i none else f := by
  unfold relM
  rw [show ((i + 1 : Nat) : Int) = (i : Int) + 1 by omega, node_at hi]
  rfl
set_option maxHeartbeats 1000000 in
theorem release_any (h : FsAt w B p f sv ps) {i : Nat} {I : Ino} (hi : f[i]? = some (some I)) (hlen : f.length ≤ 100000) : Calls Tryz.prog 253 #[.pointer (some ⟨p, 0, none⟩), .int .i64 ((i : Int) + 1)] w fun e w' => e = .returned (.tuple #[]) ∧ FsP (All B) w w' p (relM f (i + 1)) := by
  obtain ⟨q, hq, dv, ev, hI⟩ := h.some_ i I hi
  have hn := Lib.hid (node_yes h hq hlen)
  have hc := Lib.hid (cut_any h (List.getElem?_eq_some_iff.1 hi).1 hlen)
  have hr := Lib.hid (relM_at hi)
  have hH := Lib.hid h
  have c0 : w.cell? ⟨p, 0, none⟩ = some sv := h.blk.cell 0
  have c2 : w.cell? ⟨q, 2, none⟩ = some (.int .i64 I.links) := hI.blk.cell 2
  have c3 : w.cell? ⟨q, 3, none⟩ = some (.int .i64 I.holds) := hI.blk.cell 3
  rw [hr.out]
  clear h hi hq hI
  by_cases h1 : I.links = 0
  · by_cases h2 : I.holds = 0
    · rw [if_pos ⟨h1, h2⟩]
      rw [h1] at c2
      rw [h2] at c3
      go_enter Tryz.func253, Tryz.ntmps253
      go_wp2_with (first | (go_at_call 58; refine hn.out.mono ?_; rintro e w' ⟨rfl, rfl⟩) | (go_at_call 273; refine hc.out.mono ?_; rintro e w' ⟨rfl, hP⟩))
      go_end0
      exact ⟨rfl, hP⟩
    · rw [if_neg (fun h => h2 h.2)]
      rw [h1] at c2
      have e2 : ((I.holds : Int) == 0) = false := beq_eq_false_iff_ne.2 (by omega)
      go_enter Tryz.func253, Tryz.ntmps253
      go_wp2_with (go_at_call 58; refine hn.out.mono ?_; rintro e w' ⟨rfl, rfl⟩)
      go_end0
      exact ⟨rfl, hH.out.same⟩
  · rw [if_neg (fun h => h1 h.1)]
    have e2 : ((I.links : Int) == 0) = false := beq_eq_false_iff_ne.2 (by omega)
    go_enter Tryz.func253, Tryz.ntmps253
    go_wp2_with (go_at_call 58; refine hn.out.mono ?_; rintro e w' ⟨rfl, rfl⟩)
    go_end0
    exact ⟨rfl, hH.out.same⟩
theorem fs_empty (w : World) : FsAt (w.alloc (.cells #[.slice none 0 0] 148)) (fun i g => i = 0 ∧ g = w.heap.size) w.heap.size [] (.slice none 0 0) [] :=
  ⟨Blk.new _ _ _, World.ownsRow_nil _ _ _ _, rfl, ⟨rfl, rfl⟩, fun g h => by simp [Value.ownBlock] at h, fun i I h => by simp at h, fun i h => by simp at h, fun i j g h1 h2 => by omega, fun i g h => by rw [h.2]; simp⟩
theorem new_any (w : World) : Calls Tryz.prog 27 #[] w fun e w' => e = .returned (.pointer (some ⟨w.heap.size, 0, none⟩)) ∧ FsP (fun _ => False) w w' w.heap.size newM := by
  have h0 := fs_empty w
  have hp := Lib.hid (put_any h0 ⟨2, 493, 1, 0, [], [], 1⟩ rfl rfl (by decide))
  have c0 : (w.alloc (.cells #[.slice none 0 0] 148)).cell? ⟨w.heap.size, 0, none⟩ = some (.slice none 0 0) := h0.blk.cell 0
  clear h0
  go_enter Tryz.func27, Tryz.ntmps27
  go_wp2_with (go_at_call 57; refine hp.out.mono ?_; rintro e w' ⟨rfl, hP⟩)
  go_ret
  refine ⟨rfl, ?_⟩
  obtain ⟨B', h1, h2, h3⟩ := hP
  refine ⟨B', h1, fun g hg => .inr ?_, ?_⟩
  · rcases h2 g hg with ⟨i, h4⟩ | h4
    · omega
    · rw [World.size_alloc] at h4; omega
  · refine ⟨h3.os, h3.tape, h3.output, Nat.le_trans (by simp) h3.size, fun g hg _ => ?_⟩
    exact (h3.block g (by rw [World.size_alloc]; omega) (fun ⟨i, h4⟩ => by omega)).trans (Below.heap_alloc _ _ _ hg)
theorem mayAdd_any (h : FsAt w B p f sv ps) {n : Int} {I : Ino} (hn : node f n = some I) (hf : FineF f) (x : ByteArray) : Calls Tryz.prog 215 #[.pointer (some ⟨p, 0, none⟩), .int .i64 n, .string x] w fun e w' => e = .returned (.int .i64 (mayAddM f n x : Nat)) ∧ Below w.heap.size w w' := by
  obtain ⟨i, q, rfl, hil, hi, hq, dv, ev, hI⟩ := node_where h hn
  have hno := Lib.hid (node_yes h hq (by have := hf.1; omega))
  have hlo := Lib.hid (lookup_any hI (hf.2 i I hi) x)
  have hma := Lib.hid (fun (w1 : World) (hb : Below w.heap.size w w1) => may_any (hI.below hb) 2)
  have hql := hI.lt q hI.sq
  have c2 : w.cell? ⟨q, 2, none⟩ = some (.int .i64 I.links) := hI.blk.cell 2
  have c2H := Lib.hid c2
  have hM : Hid (mayAddM f ((i : Int) + 1) x = if lookM I.ents x ≠ 0 then 17 else if I.links = 0 then 2 else if I.may 2 then 0 else 13) := Lib.hid (by unfold mayAddM; rw [hn])
  rw [hM.out]
  clear h hn hi hq hI hf c2
  by_cases h1 : lookM I.ents x = 0
  · rw [if_neg (fun h => h h1)]
    rw [h1] at hlo
    by_cases h2 : I.links = 0
    · rw [if_pos h2]
      rw [h2] at c2H
      go_enter Tryz.func215, Tryz.ntmps215
      go_wp2_with (first | (go_at_call 58; refine hno.out.mono ?_; rintro e w' ⟨rfl, rfl⟩) | (go_at_call 131; refine hlo.out.mono ?_; rintro e w1 ⟨rfl, hb⟩; have d2 : w1.cell? ⟨q, 2, none⟩ = _ := (hb.cell hql).trans c2H.out))
      go_ret
      exact ⟨rfl, hb⟩
    · rw [if_neg h2]
      have e2 : ((I.links : Int) == 0) = false := beq_eq_false_iff_ne.2 (by omega)
      cases h3 : I.may 2 with
      | true =>
        rw [if_pos rfl]
        have h3H := Lib.hid h3
        clear h3
        go_enter Tryz.func215, Tryz.ntmps215
        go_wp2_with (first | (go_at_call 58; refine hno.out.mono ?_; rintro e w' ⟨rfl, rfl⟩) | (go_at_call 131; refine hlo.out.mono ?_; rintro e w1 ⟨rfl, hb⟩; have d2 : w1.cell? ⟨q, 2, none⟩ = _ := (hb.cell hql).trans c2H.out) | (go_at_call 208; refine (hma.out _ hb).mono ?_; rintro e w' ⟨rfl, rfl⟩; rw [h3H.out]))
        go_ret
        exact ⟨rfl, hb⟩
      | false =>
        rw [if_neg (by decide)]
        have h3H := Lib.hid h3
        clear h3
        go_enter Tryz.func215, Tryz.ntmps215
        go_wp2_with (first | (go_at_call 58; refine hno.out.mono ?_; rintro e w' ⟨rfl, rfl⟩) | (go_at_call 131; refine hlo.out.mono ?_; rintro e w1 ⟨rfl, hb⟩; have d2 : w1.cell? ⟨q, 2, none⟩ = _ := (hb.cell hql).trans c2H.out) | (go_at_call 208; refine (hma.out _ hb).mono ?_; rintro e w' ⟨rfl, rfl⟩; rw [h3H.out]))
        go_ret
        exact ⟨rfl, hb⟩
  · rw [if_pos h1]
    have e2 : ((lookM I.ents x : Int) != 0) = true := by simp; omega
    go_enter Tryz.func215, Tryz.ntmps215
    go_wp2_with (first | (go_at_call 58; refine hno.out.mono ?_; rintro e w' ⟨rfl, rfl⟩) | (go_at_call 131; refine hlo.out.mono ?_; rintro e w1 ⟨rfl, hb⟩))
    go_ret
    exact ⟨rfl, hb⟩
end
end Go.Proofs.YtmilagppbepnbaaGreat
/- A range over a function whose iterator has blocks of its own: a law of the statement. The iterator tells which blocks are its own (T); the body leaves them as they lay; the caller's invariant abides what the iterator does to them. So an iterator may itself range over an iterator. No condition. -/
namespace Go.Proofs.YtmilagppbepnbaaGreat
open Go.RowKit

/-- What an iterator may do between two rounds: turn its own blocks, and make new ones. -/
structure Ext (T : List Nat) (A : World) (T' : List Nat) (B : World) : Prop where
  os : B.os = A.os
  tape : B.tape = A.tape
  output : B.output = A.output
  size : A.heap.size ≤ B.heap.size
  block : ∀ k, k < A.heap.size → k ∉ T → B.heap[k]? = A.heap[k]?
  new : ∀ k, k ∈ T' → k ∈ T ∨ (A.heap.size ≤ k ∧ k < B.heap.size)

theorem Ext.cons {T T' : List Nat} {A B : World} (h : Ext T A T' B) (j : Nat) : Ext (j :: T) A (j :: T') B :=
  ⟨h.os, h.tape, h.output, h.size, fun k hk hj => h.block k hk (fun e => hj (List.mem_cons_of_mem _ e)), fun k hk => by
    rcases List.mem_cons.1 hk with rfl | hk
    · exact .inl (List.mem_cons_self ..)
    · rcases h.new k hk with e | e
      · exact .inl (List.mem_cons_of_mem _ e)
      · exact .inr e⟩
theorem Ext.below {T : List Nat} {A B : World} (h : Below A.heap.size A B) : Ext T A T B := ⟨h.os, h.tape, h.output, h.size, fun k hk _ => h.block k hk, fun _ h => .inl h⟩
theorem Ext.put {T : List Nat} {A : World} {l : Nat} (hl : l ∈ T) (o : Obj) : Ext T A T (A.putObj l o) :=
  ⟨rfl, rfl, rfl, by simp [World.putObj], fun k _ hk => World.putObj_heap_other (fun e => hk (e ▸ hl)), fun _ h => .inl h⟩

/-- The iterator's own blocks lie as they lay. -/
structure Keeps (T : List Nat) (A B : World) : Prop where
  size : A.heap.size ≤ B.heap.size
  block : ∀ k, k ∈ T → k < A.heap.size → B.heap[k]? = A.heap[k]?

/-- An invariant abides what the iterator does. -/
def Abide {α : Type} (I : List Nat → List α → World → Prop) : Prop := ∀ T T' pre A B, I T pre A → Ext T A T' B → I T' pre B

/-- The contract of an iterator with blocks of its own. -/
def SeqT {α : Type} (F : Fence) (n : Nat) (P : Program) (g : Nat) (lb : Array Value) (encs : α → Array Value) (Kp : List α → α → World → World → Prop) (S Sp : List α → Prop) (T0 : List Nat) (w : World) : Prop :=
  ∀ (l : Nat) (J Jx : List Nat → List α → World → Prop) (W : World), Below w.heap.size w W → Abide J → Abide Jx →
    (∀ T pre x W1, Sp (pre ++ [x]) → J T pre W1 → YieldAt F (n - 1) P l (encs x) W1 fun e W' =>
      (e = .returned (.bool true) ∧ J T (pre ++ [x]) W' ∧ Keeps T W1 W' ∧ Kp pre x W1 W') ∨ (e = .returned (.bool false) ∧ Jx T (pre ++ [x]) W' ∧ Keeps T W1 W')) →
    J T0 [] W →
    CallsIn F n P g (#[.func (.yield l) #[] #[]] ++ lb) W fun e W' => (∃ v, e = .returned v) ∧ ((∃ T xs, S xs ∧ J T xs W') ∨ (∃ T pre, Sp pre ∧ Jx T pre W'))

/-- How a body ends. -/
def postT {α : Type} (Kp : World → World → Prop) (I : List Nat → List α → World → Prop) (Ix : Code → List Nat → List α → World → Prop) (T : List Nat) (xs : List α) (W : World) : Exit → Act → World → Prop
  | .normal, _, W' => I T xs W' ∧ Keeps T W W' ∧ Kp W W'
  | .ret, _, W' => Ix .ret T xs W' ∧ Keeps T W W'
  | .exit id, _, W' => Ix (.exit id) T xs W' ∧ Keeps T W W'
  | .goto t, _, W' => Ix (.goto t) T xs W' ∧ Keeps T W W'
  | .panic _, _, _ => False
  | .outgrown, _, _ => False

variable {F : Fence} {n : Nat} {P : Program}

theorem range_law {α : Type} {g : Operand} {ps : Array Tmp} {assign body : Code} {Q : Exit → Act → World → Prop} {a : Act} {w : World}
    (hro : F.round = none) (h1 : 1 ≤ n) {gf : Nat} {lb : Array Value} (hg : a.eval g = .func (.func gf) #[] lb) (hFg : F.fn gf) (eg : ∀ args w, (callFunc gf args).run P w = .ok (.enter gf args) w)
    {encs : α → Array Value} {Kp : List α → α → World → World → Prop} {S Sp : List α → Prop} {T0 : List Nat} {w0 : World} (hseq : SeqT F (n - 1) P gf lb encs Kp S Sp T0 w0) (hT0 : ∀ k ∈ T0, k < w.heap.size)
    (hKb : ∀ pre x (A B : World) (k : Nat) (o o' : Obj), w.heap.size ≤ k → Kp pre x (A.putObj k o) B → Kp pre x A (B.putObj k o')) (hb0 : Below w0.heap.size w0 w) (hps : ∀ x, (encs x).size = ps.size)
    (I : List Nat → List α → World → Prop) (Ix : Code → List Nat → List α → World → Prop) (hI : Abide I) (hIx : ∀ c, Abide (Ix c)) (h0 : I T0 [] w) (a₁ : α → World → Act) (W₁ : α → World → World) (hW₁ : ∀ x W, Below W.heap.size W (W₁ x W)) (hKa : ∀ pre x A B, Kp pre x (W₁ x A) B → Kp pre x A B)
    (hassign : ∀ (l : Nat) (x : α) (W : World) (K : Act → World → Prop), K (a₁ x W) (W₁ x W) →
      assign.wpIn (F.inRound l) (n - 1 - 1) P (Exit.then K (fun _ _ _ => False)) { tmps := (ps.zip (encs x)).foldl (fun t (p, v) => t.setIfInBounds p v) a.tmps, defers := [] } W)
    (hbody : ∀ (l : Nat) (T : List Nat) (pre : List α) (x : α) (W W' : World) (o : Obj), Sp (pre ++ [x]) → I T pre W → l < W.heap.size → W' = (W₁ x W).putObj l o → I T pre W' → body.wpIn (F.inRound l) (n - 1 - 1) P (postT (Kp pre x) I Ix T (pre ++ [x]) W') (a₁ x W) W')
    (hdone : ∀ (D : Nat) (T : List Nat) (xs : List α) (W : World), w.heap.size ≤ D → D ∈ T → S xs → I T xs W → W.heap[D]? = some (.deferred (some [])) → Q .normal { a with defers := { target := .collected D, args := #[] } :: a.defers } W)
    (hstop : ∀ (D : Nat) (c : Code) (T : List Nat) (pre : List α) (W : World), w.heap.size ≤ D → D ∈ T → Sp pre → Ix c T pre W → W.heap[D]? = some (.deferred (some [])) → c.wpIn F n P Q { a with defers := { target := .collected D, args := #[] } :: a.defers } W) :
    (Code.rangeFunc g ps assign body).wpIn F n P Q a w := by
  refine wpIn_rangeFunc ?_
  intro fn hfn
  rw [hro]
  obtain ⟨d, hd⟩ : ∃ d, w.heap.size = d := ⟨_, rfl⟩
  obtain ⟨rec, hrec⟩ : ∃ rec : LoopState → Option Code → Loop, rec = fun st pe => { state := st, pending := pe, fn, tmps := a.tmps, params := ps, assign, body, defers := w.heap.size } := ⟨_, rfl⟩
  obtain ⟨W1, hW1⟩ : ∃ W1, (w.alloc (.deferred (some []))).alloc (.loop (rec .ready none)) = W1 := ⟨_, rfl⟩
  have hs1 : W1.heap.size = d + 2 := by rw [← hW1, ← hd]; simp
  have hL1 : W1.heap[d + 1]? = some (.loop (rec .ready none)) := by
    rw [← hW1, ← hd]
    have := World.alloc_heap_new (w.alloc (.deferred (some []))) (.loop (rec .ready none))
    rwa [World.size_alloc] at this
  have hD1 : W1.heap[d]? = some (.deferred (some [])) := by
    rw [← hW1, ← hd]
    exact (Below.heap_alloc _ _ _ (by simp)).trans (World.alloc_heap_new w _)
  have hbel : Below w.heap.size w W1 := by rw [← hW1]; exact ((Below.refl _ w).alloc (Nat.le_refl _) _).alloc (by simp) _
  have hI1 : I ((d + 1) :: d :: T0) [] W1 := hI _ _ _ _ _ h0 ⟨hbel.os, hbel.tape, hbel.output, hbel.size, fun k hk _ => hbel.block k hk, fun k hk => by
    rcases List.mem_cons.1 hk with rfl | hk
    · exact .inr (by omega)
    · rcases List.mem_cons.1 hk with rfl | hk
      · exact .inr (by omega)
      · exact .inl hk⟩
  refine ⟨d + 1, [{ target := .collected d, args := #[] }], W1, { target := .fn (.func gf) lb, args := #[.func (.yield (d + 1)) #[] #[]] }, W1, gf, #[.func (.yield (d + 1)) #[] #[]] ++ lb, W1, ?_, ?_, ?_, ?_, fun _ => h1, ?_⟩
  · rw [← hW1, hrec, ← hd]; exact run_enterLoop_outer _ _ _ _ _
  · simp only [resolve, hg]
    simp [go_sem]
  · intro f' hf'; simp [Target.leads] at hf'; subst hf'; exact hFg
  · simp [invoke, go_sem, eg]
  have hb1 : Below w0.heap.size w0 W1 := hb0.trans (hbel.mono hb0.size)
  have keepRec : ∀ {T T' : List Nat} {A B : World} {st : Loop}, Ext T A T' B → A.heap[d + 1]? = some (.loop st) → A.heap[d]? = some (.deferred (some [])) → (∀ k ∈ T, k ≠ d ∧ k ≠ d + 1) →
      B.heap[d + 1]? = some (.loop st) ∧ B.heap[d]? = some (.deferred (some [])) ∧ ∀ k ∈ T', k ≠ d ∧ k ≠ d + 1 := fun {T T' A B st} he hl hk hT => by
    have hlt := (Array.getElem?_eq_some_iff.1 hl).1
    refine ⟨(he.block (d + 1) hlt (fun e => by have := hT _ e; omega)).trans hl, (he.block d (by omega) (fun e => by have := hT _ e; omega)).trans hk, fun k hk => ?_⟩
    rcases he.new k hk with e | e
    · exact hT k e
    · omega
  refine (hseq (d + 1)
    (fun T pre W => I ((d + 1) :: d :: T) pre W ∧ W.heap[d + 1]? = some (.loop (rec .ready none)) ∧ W.heap[d]? = some (.deferred (some [])) ∧ ∀ k ∈ T, k ≠ d ∧ k ≠ d + 1)
    (fun T pre W => ∃ c, Ix c ((d + 1) :: d :: T) pre W ∧ W.heap[d + 1]? = some (.loop (rec .done (some c))) ∧ W.heap[d]? = some (.deferred (some [])) ∧ ∀ k ∈ T, k ≠ d ∧ k ≠ d + 1)
    W1 hb1
    (fun T T' pre A B hs he => by
      obtain ⟨hi, hl, hk, hT⟩ := hs
      exact ⟨hI _ _ _ _ _ hi ((he.cons d).cons (d + 1)), keepRec he hl hk hT⟩)
    (fun T T' pre A B hs he => by
      obtain ⟨c, hi, hl, hk, hT⟩ := hs
      exact ⟨c, hIx c _ _ _ _ _ hi ((he.cons d).cons (d + 1)), keepRec he hl hk hT⟩)
    ?_ ⟨hI1, hL1, hD1, fun k hk => by have := hT0 k hk; omega⟩).mono ?_
  · rintro T pre x W hsp ⟨hi, hl, hk, hT⟩
    have hlt : d + 1 < W.heap.size := (Array.getElem?_eq_some_iff.1 hl).1
    have hy := run_yield (P := P) (args := encs x) hl (by rw [hrec]; exact hps x)
    rw [hrec] at hy
    have hx1 := hW₁ x W
    have hlx : (W₁ x W).heap[d + 1]? = some (.loop (rec .ready none)) := (hx1.block _ hlt).trans hl
    have hltx : d + 1 < (W₁ x W).heap.size := (Array.getElem?_eq_some_iff.1 hlx).1
    refine ⟨fn, _, assign, body, hy, roundIn_of_wpIn hfn (hassign _ x W _ ⟨_, run_beginRound hlx (by rw [hrec]), ?_⟩)⟩
    obtain ⟨Wb, hWb⟩ : ∃ Wb, (W₁ x W).putObj (d + 1) (.loop { rec .ready none with state := .busy }) = Wb := ⟨_, rfl⟩
    have hl2 : Wb.heap[d + 1]? = some (.loop { rec .ready none with state := .busy }) := by rw [← hWb]; exact World.putObj_heap_same hltx
    have hfar : ∀ k, k < W.heap.size → k ≠ d + 1 → Wb.heap[k]? = W.heap[k]? := fun k hks hk => by rw [← hWb]; exact (World.putObj_heap_other hk).trans (hx1.block k hks)
    have hk2 : Wb.heap[d]? = some (.deferred (some [])) := (hfar d (by omega) (by omega)).trans hk
    have hsb : W.heap.size ≤ Wb.heap.size := by rw [← hWb]; have := hx1.size; simpa [World.putObj] using this
    have hib : I ((d + 1) :: d :: T) pre Wb := by rw [← hWb]; exact hI _ _ _ _ _ (hI _ _ _ _ _ hi (.below hx1)) (.put (List.mem_cons_self ..) _)
    rw [hWb]
    refine wpIn_mono (hbody _ ((d + 1) :: d :: T) pre x W Wb _ hsp hi hlt hWb.symm hib) ?_
    have fin : ∀ (jump : Option Code) (W3 : World), Keeps ((d + 1) :: d :: T) Wb W3 →
        (Instr.endRound (d + 1) jump).run P W3 = .ok (.bool jump.isNone) (W3.putObj (d + 1) (.loop (rec (if jump.isNone then .ready else .done) jump))) ∧
        (W3.putObj (d + 1) (.loop (rec (if jump.isNone then .ready else .done) jump))).heap[d + 1]? = some (.loop (rec (if jump.isNone then .ready else .done) jump)) ∧
        (W3.putObj (d + 1) (.loop (rec (if jump.isNone then .ready else .done) jump))).heap[d]? = some (.deferred (some [])) ∧
        Keeps T W (W3.putObj (d + 1) (.loop (rec (if jump.isNone then .ready else .done) jump))) := fun jump W3 hk3 => by
      have hl3 := (hk3.block (d + 1) (List.mem_cons_self ..) (by omega)).trans hl2
      have hd3 := (hk3.block d (List.mem_cons_of_mem _ (List.mem_cons_self ..)) (by omega)).trans hk2
      have := run_endRound (P := P) jump hl3
      rw [hrec] at this ⊢
      refine ⟨this, World.putObj_heap_same (Array.getElem?_eq_some_iff.1 hl3).1, (World.putObj_heap_other (by omega)).trans hd3, ?_, fun k hk hks => ?_⟩
      · have := hk3.size
        simp [World.putObj]
        omega
      · have hkd : k ≠ d + 1 := fun e => by have := hT k hk; omega
        exact (World.putObj_heap_other hkd).trans ((hk3.block k (List.mem_cons_of_mem _ (List.mem_cons_of_mem _ hk)) (by omega)).trans (hfar k hks hkd))
    rintro e a3 W3 hp
    cases e with
    | normal =>
      obtain ⟨hi3, hk3, hkp3⟩ := hp
      obtain ⟨hr, hl4, hd4, hk4⟩ := fin none W3 hk3
      refine ⟨_, _, hr, .inl ⟨rfl, ⟨hI _ _ _ _ _ hi3 (.put (List.mem_cons_self ..) _), hl4, hd4, hT⟩, hk4, ?_⟩⟩
      rw [← hWb] at hkp3
      exact hKa pre x W _ (hKb pre x (W₁ x W) W3 (d + 1) _ _ (by omega) hkp3)
    | ret =>
      obtain ⟨hi3, hk3⟩ := hp
      obtain ⟨hr, hl4, hd4, hk4⟩ := fin (some .ret) W3 hk3
      exact ⟨_, _, hr, .inr ⟨rfl, ⟨.ret, hIx _ _ _ _ _ _ hi3 (.put (List.mem_cons_self ..) _), hl4, hd4, hT⟩, hk4⟩⟩
    | exit id =>
      obtain ⟨hi3, hk3⟩ := hp
      obtain ⟨hr, hl4, hd4, hk4⟩ := fin (some (.exit id)) W3 hk3
      exact ⟨_, _, hr, .inr ⟨rfl, ⟨.exit id, hIx _ _ _ _ _ _ hi3 (.put (List.mem_cons_self ..) _), hl4, hd4, hT⟩, hk4⟩⟩
    | goto c =>
      obtain ⟨hi3, hk3⟩ := hp
      obtain ⟨hr, hl4, hd4, hk4⟩ := fin (some (.goto c)) W3 hk3
      exact ⟨_, _, hr, .inr ⟨rfl, ⟨.goto c, hIx _ _ _ _ _ _ hi3 (.put (List.mem_cons_self ..) _), hl4, hd4, hT⟩, hk4⟩⟩
    | panic ch => exact hp.elim
    | outgrown => exact hp.elim
  · rintro e W2 ⟨⟨v, rfl⟩, (⟨T, xs, hS, hi, hl, hk, hT⟩ | ⟨T, pre, hSp, c, hi, hl, hk, hT⟩)⟩
    · exact ⟨none, _, by have := run_endLoop (P := P) hl (by rw [hrec]; simp); rw [hrec] at this; exact this,
        hdone d ((d + 1) :: d :: T) xs _ (by omega) (List.mem_cons_of_mem _ (List.mem_cons_self ..)) hS (hI _ _ _ _ _ hi (.put (List.mem_cons_self ..) _)) ((World.putObj_heap_other (by omega)).trans hk)⟩
    · exact ⟨some c, _, by have := run_endLoop (P := P) hl (by rw [hrec]; simp); rw [hrec] at this; exact this,
        hstop d c ((d + 1) :: d :: T) pre _ (by omega) (List.mem_cons_of_mem _ (List.mem_cons_self ..)) hSp (hIx c _ _ _ _ _ hi (.put (List.mem_cons_self ..) _)) ((World.putObj_heap_other (by omega)).trans hk)⟩

end Go.Proofs.YtmilagppbepnbaaGreat
/- The slots one by one; Bytes, Count. Condition: the tree lies as stated. -/
namespace Go.Proofs.YtmilagppbepnbaaGreat
open Go.RowKit Go.Shelf Go.PlainAid
attribute [local go_sem] Oper.semAt_some

theorem alB (w : World) (o : Obj) : Below w.heap.size w (w.alloc o) := (Below.refl _ _).alloc (Nat.le_refl _) _
theorem below_of {k n₀ : Nat} {w w1 : World} (h : Below k w w1) (hk : n₀ ≤ k) : Below n₀ w w1 := ⟨h.os, h.tape, h.output, h.size, fun g hg => h.block g (by omega)⟩
theorem yield_wide {m m' l : Nat} {P : Program} {args : Array Value} {W : World} {R : Ending → World → Prop} (h : YieldAt Fence.wide m P l args W R) : YieldAt Fence.wide m' P l args W R := by
  obtain ⟨fn, tmps, assign, body, h1, h2, h3⟩ := h
  exact ⟨fn, tmps, assign, body, h1, h2, fun c cs _ => h3 c cs (room_wide _)⟩
theorem newB (w : World) (cs : Array Value) {t : TypeId} (g : Nat) (hg : w.heap.size = g) : Blk (w.alloc (.cells cs t)) g t cs := by rw [← hg]; exact Blk.new _ _ _


def lives (ps : List (Option Nat)) : List Nat := ps.filterMap id
theorem lives_take {ps : List (Option Nat)} {i : Nat} {o : Option Nat} (h : ps[i]? = some o) : lives (ps.take (i + 1)) = lives (ps.take i) ++ o.toList := by
  unfold lives
  rw [List.take_add_one, h, List.filterMap_append]
  cases o <;> rfl
theorem lives_pre (ps : List (Option Nat)) (i : Nat) : lives (ps.take i) <+: lives ps := by
  unfold lives
  conv => rhs; rw [← List.take_append_drop i ps, List.filterMap_append]
  exact List.prefix_append _ _
theorem lives_len (ps : List (Option Nat)) (i : Nat) : (lives (ps.take i)).length ≤ i := by
  unfold lives
  have := List.length_filterMap_le (id : Option Nat → Option Nat) (ps.take i)
  rw [List.length_take] at this
  omega
def encN (q : Nat) : Array Value := #[.pointer (some ⟨q, 0, none⟩)]
/-- What the slots lie in stays. -/
structure SlotsAt (W : World) (b p : Nat) (sv : Value) (ps : List (Option Nat)) : Prop where
  box : Blk W b 213 #[.pointer (some ⟨p, 0, none⟩)]
  blk : Blk W p 148 #[sv]
  row : W.ownsRow 0 153 1 sv ps.length (ptrs ps)
theorem SlotsAt.cell {W : World} {b p : Nat} {sv : Value} {ps : List (Option Nat)} (h : SlotsAt W b p sv ps) {i : Nat} {o : Option Nat} (hi : ps[i]? = some o) : ∃ g c, sv = .slice (some ⟨g, 0, none⟩) ps.length c ∧ W.cell? ⟨g, i, none⟩ = some (ptrV o) := by
  have hl := (List.getElem?_eq_some_iff.1 hi).1
  obtain ⟨g, cap, e, _, _⟩ := h.row.form (by omega)
  refine ⟨g, cap, e, ?_⟩
  have h9 := h.row
  rw [e] at h9
  rw [h9.cellAt _ (by omega)]
  simp [ptrs, hi]
/-- What a round keeps: the blocks below n₀, but those in S. -/
structure KeepN (n₀ : Nat) (S : Nat → Prop) (W W' : World) : Prop where
  size : W.heap.size ≤ W'.heap.size
  same : ∀ g, g < n₀ → ¬ S g → W'.heap[g]? = W.heap[g]?
theorem KeepN.refl (n₀ : Nat) (S : Nat → Prop) (W : World) : KeepN n₀ S W W := ⟨Nat.le_refl _, fun _ _ _ => rfl⟩
theorem keepN_b {n₀ : Nat} {S : Nat → Prop} {A B : World} {k : Nat} {o o' : Obj} (hk : n₀ ≤ k) (h : KeepN n₀ S (A.putObj k o) B) : KeepN n₀ S A (B.putObj k o') :=
  ⟨by have := h.size; simp [World.putObj] at this ⊢; exact this, fun g h1 h2 => (World.putObj_heap_other (by omega)).trans ((h.same g h1 h2).trans (World.putObj_heap_other (by omega)))⟩
theorem keepN_set {n₀ : Nat} {S : Nat → Prop} {A B : World} (h : KeepN n₀ S A B) {c o : Nat} (hc : S c ∨ n₀ ≤ c) (u : Value) : KeepN n₀ S A (B.setCell ⟨c, o, none⟩ u) :=
  ⟨by rw [World.size_setCell]; exact h.size, fun g h1 h2 => (Below.heap_setCell _ _ _ _ (fun e => by
    have e' : g = c := e
    rcases hc with h3 | h3
    · exact h2 (e' ▸ h3)
    · omega)).trans (h.same g h1 h2)⟩
theorem SlotsAt.keepN {W W' : World} {b p n₀ : Nat} {sv : Value} {ps : List (Option Nat)} {S : Nat → Prop} (h : SlotsAt W b p sv ps) (k : KeepN n₀ S W W') (h1 : b < n₀ ∧ ¬ S b) (h2 : p < n₀ ∧ ¬ S p) (h3 : ∀ g, sv.ownBlock = some g → g < n₀ ∧ ¬ S g) : SlotsAt W' b p sv ps :=
  ⟨(k.same b h1.1 h1.2).trans h.box, (k.same p h2.1 h2.2).trans h.blk, row_keep h.row (fun g hg => k.same g (h3 g hg).1 (h3 g hg).2)⟩
/-- What a caller's invariant holds: all but the blocks in X lie as they lay; the iterator's own ones are new, or in XT. -/
structure InvG (n₀ : Nat) (X XT : Nat → Prop) (w0 : World) (T : List Nat) (W : World) : Prop where
  ts : ∀ k ∈ T, n₀ ≤ k ∨ XT k
  os : W.os = w0.os
  tape : W.tape = w0.tape
  output : W.output = w0.output
  n0 : n₀ ≤ W.heap.size
  block : ∀ g, g < n₀ → ¬ X g → W.heap[g]? = w0.heap[g]?
theorem InvG.ext {n₀ : Nat} {X XT : Nat → Prop} {w0 A B : World} {T T' : List Nat} (h : InvG n₀ X XT w0 T A) (hX : ∀ g, XT g → X g) (he : Ext T A T' B) : InvG n₀ X XT w0 T' B :=
  ⟨fun k hk => by
    rcases he.new k hk with h1 | h1
    · exact h.ts k h1
    · have := h.n0; exact .inl (by omega), he.os.trans h.os, he.tape.trans h.tape, he.output.trans h.output, Nat.le_trans h.n0 he.size, fun g h1 h2 => (he.block g (by have := h.n0; omega) (fun h3 => by
      rcases h.ts g h3 with h4 | h4
      · omega
      · exact h2 (hX g h4))).trans (h.block g h1 h2)⟩
theorem InvG.start {n₀ : Nat} {X XT : Nat → Prop} {w0 : World} {T : List Nat} (hT : ∀ k ∈ T, XT k) (hn : n₀ ≤ w0.heap.size) : InvG n₀ X XT w0 T w0 := ⟨fun k hk => .inr (hT k hk), rfl, rfl, rfl, hn, fun _ _ _ => rfl⟩
theorem InvG.set {n₀ : Nat} {X XT : Nat → Prop} {w0 W : World} {T : List Nat} (h : InvG n₀ X XT w0 T W) {c o : Nat} (hc : X c ∨ n₀ ≤ c) (u : Value) : InvG n₀ X XT w0 T (W.setCell ⟨c, o, none⟩ u) :=
  ⟨h.ts, h.os, h.tape, h.output, by rw [World.size_setCell]; exact h.n0, fun g h1 h2 => (Below.heap_setCell _ _ _ _ (fun e => by
    have e' : g = c := e
    rcases hc with h3 | h3
    · exact h2 (e' ▸ h3)
    · omega)).trans (h.block g h1 h2)⟩
theorem InvG.below {n₀ : Nat} {X XT : Nat → Prop} {w0 W W' : World} {T : List Nat} (h : InvG n₀ X XT w0 T W) (k : Below W.heap.size W W') : InvG n₀ X XT w0 T W' :=
  ⟨h.ts, k.os.trans h.os, k.tape.trans h.tape, k.output.trans h.output, Nat.le_trans h.n0 k.size, fun g h1 h2 => (k.block g (by have := h.n0; omega)).trans (h.block g h1 h2)⟩
theorem blk_ext {n₀ : Nat} {XT : Nat → Prop} {A B : World} {T T' : List Nat} {c : Nat} {t : TypeId} {cs : Array Value} (hb : Blk A c t cs) (hts : ∀ k ∈ T, n₀ ≤ k ∨ XT k) (hc : c < n₀) (hX : ¬ XT c) (he : Ext T A T' B) : Blk B c t cs :=
  (he.block c hb.lt (fun h => by
    rcases hts c h with h1 | h1
    · omega
    · exact hX h1)).trans hb
theorem InvG.toBelow {n₀ : Nat} {X XT : Nat → Prop} {w w0 W : World} {T : List Nat} (h : InvG n₀ X XT w0 T W) (hb : Below w.heap.size w w0) (hX : ∀ g, X g → w.heap.size ≤ g) (hn : w0.heap.size ≤ n₀) : Below w.heap.size w W :=
  ⟨h.os.trans hb.os, h.tape.trans hb.tape, h.output.trans hb.output, by have := hb.size; have := h.n0; omega, fun g hg => (h.block g (by have := hb.size; omega) (fun h1 => by have := hX g h1; omega)).trans (hb.block g hg)⟩
theorem keepsT {n₀ : Nat} {X XT : Nat → Prop} {w0 W W' : World} {T : List Nat} (h : InvG n₀ X XT w0 T W) (hs : W.heap.size ≤ W'.heap.size) (hb : ∀ g, (n₀ ≤ g ∨ XT g) → g < W.heap.size → W'.heap[g]? = W.heap[g]?) : Keeps T W W' := ⟨hs, fun k hk hl => hb k (h.ts k hk) hl⟩
section
variable (l n₀ b p : Nat) (sv : Value) (ps : List (Option Nat)) (S : Nat → Prop) (J Jx : List Nat → List Nat → World → Prop)
  (hY : ∀ T pre x W, pre ++ [x] <+: lives ps → J T pre W → YieldAt Fence.wide 0 Tryz.prog l (encN x) W fun e W' => (e = .returned (.bool true) ∧ J T (pre ++ [x]) W' ∧ Keeps T W W' ∧ KeepN n₀ S W W') ∨ (e = .returned (.bool false) ∧ Jx T (pre ++ [x]) W' ∧ Keeps T W W'))
  (hSb : b < n₀ ∧ ¬ S b) (hSp : p < n₀ ∧ ¬ S p) (hSs : ∀ g, sv.ownBlock = some g → g < n₀ ∧ ¬ S g) (hl : ps.length ≤ 100000)
include hY hSb hSp hSs hl
set_option maxRecDepth 100000 in
set_option maxHeartbeats 3000000 in
theorem all1_in (d : Nat) (hd : 1 ≤ d) (W : World) (h : SlotsAt W b p sv ps) (h0 : J [] [] W) :
    CallsIn Fence.wide d Tryz.prog 99 #[.func (.yield l) #[] #[], .pointer (some ⟨b, 0, none⟩)] W fun e W' => (∃ v, e = .returned v) ∧ ((∃ T ys, ys = lives ps ∧ J T ys W') ∨ (∃ T pre, pre <+: lives ps ∧ Jx T pre W')) := by
  obtain ⟨a, c, rfl⟩ := ownsRow_slice h.row
  obtain ⟨m, hm⟩ : ∃ m, ps.length = m := ⟨_, rfl⟩
  have x0 : W.cell? ⟨b, 0, none⟩ = some (.pointer (some ⟨p, 0, none⟩)) := h.box.cell 0
  have x1 : W.cell? ⟨p, 0, none⟩ = some (.slice a m c) := by rw [← hm]; exact h.blk.cell 0
  have hH := Lib.hid h
  have h0H := Lib.hid h0
  have hmH := Lib.hid hm
  have hYH := Lib.hid hY
  have hSH := Lib.hid (And.intro hSb (And.intro hSp hSs))
  rw [hm] at hl
  clear h h0 hm hY hSb hSp hSs
  refine callsIn_of_wp Tryz.func99 rfl trivial ?_ rfl
  simp only [Tryz.ntmps99, List.size_toArray, List.length_cons, List.length_nil, Nat.reduceAdd, Nat.reduceSub, Array.replicate_succ, Array.replicate_zero, List.push_toArray, List.append_toArray, List.nil_append, List.cons_append]
  gi_wp2
  gi_loopw [10] (fun s10 wr => ∃ i : Nat, i ≤ m ∧ s10 = .int .i64 i ∧ Hid (J [] (lives (ps.take i)) wr) ∧ Hid (SlotsAt wr b p (.slice a ps.length c) ps)) (fun s10 _ => m - (intOf s10).toNat)
  case atStart => exact ⟨0, Nat.zero_le _, by go_num, h0H, hH⟩
  case round =>
    obtain ⟨i, hi, rfl, hJ, hS⟩ := hrel
    by_cases hlt : i < m
    · obtain ⟨o, ho⟩ : ∃ o, ps[i]? = some o := ⟨_, List.getElem?_eq_getElem (by rw [hmH.out]; exact hlt)⟩
      obtain ⟨g, c', e, hc⟩ := hS.out.cell ho
      obtain ⟨rfl, rfl⟩ : a = some ⟨g, 0, none⟩ ∧ c = c' := by simpa using e
      have hlv := Lib.hid (lives_take ho)
      cases o with
      | none =>
        have hc2 : wr.cell? ⟨g, i, none⟩ = some (.pointer none) := hc
        clear hc e ho
        gi_wp2
        refine ⟨fun _ h => (by cases h), ?_⟩
        gi_wp2
        go_roundw
        case rel => exact ⟨i + 1, by omega, by go_num, Lib.hid (by rw [hlv.out]; simpa using hJ.out), hS⟩
        case measure => simp [intOf]; omega
      | some q =>
        have hc2 : wr.cell? ⟨g, i, none⟩ = some (.pointer (some ⟨q, 0, none⟩)) := hc
        clear hc e ho
        obtain ⟨fn, tmps, assign, body, hy, hYR⟩ := yield_wide (m' := d - 1) (hYH.out [] _ q wr (by have h9 := lives_pre ps (i + 1); rw [hlv.out] at h9; exact h9) hJ.out)
        have hYRH := Lib.hid hYR
        dsimp only [encN] at hy
        clear hYR
        gi_wp2
        refine hYRH.out.mono ?_
        rintro e W3 (⟨rfl, hJ3, _, hk3⟩ | ⟨rfl, hJx3, _⟩)
        · have hJ3H := Lib.hid hJ3
          have hS3 := Lib.hid (hS.out.keepN hk3 hSH.out.1 hSH.out.2.1 hSH.out.2.2)
          clear hJ3 hk3 hy
          gi_wp2
          go_roundw
          case rel => exact ⟨i + 1, by omega, by go_num, Lib.hid (by rw [hlv.out]; exact hJ3H.out), hS3⟩
          case measure => simp [intOf]; omega
        · have hJxH := Lib.hid hJx3
          clear hJx3
          gi_wp2
          refine bodyPost_ret (results_none rfl _ _ _) rfl ?_
          refine ⟨⟨_, rfl⟩, .inr ⟨_, _, ?_, hJxH.out⟩⟩
          have h9 := lives_pre ps (i + 1)
          rw [hlv.out] at h9
          exact h9
    · obtain rfl : i = m := by omega
      have hJ2 := hJ.out
      rw [← hmH.out, List.take_length] at hJ2
      have hJ2H := Lib.hid hJ2
      clear hJ2
      gi_wp2
      go_end0
      exact ⟨⟨_, rfl⟩, .inl ⟨_, _, rfl, hJ2H.out⟩⟩
end
theorem all_any (p : Nat) (w : World) : Calls Tryz.prog 54 #[.pointer (some ⟨p, 0, none⟩)] w fun e w' => e = .returned (.func (.func 99) #[] #[.pointer (some ⟨w.heap.size, 0, none⟩)]) ∧ w' = w.alloc (.cells #[.pointer (some ⟨p, 0, none⟩)] 213) := by
  go_enter Tryz.func54, Tryz.ntmps54
  go_wp2
  go_ret
  exact ⟨rfl, rfl⟩
theorem SlotsAt.below {W W' : World} {b p : Nat} {sv : Value} {ps : List (Option Nat)} (h : SlotsAt W b p sv ps) (k : Below W.heap.size W W') : SlotsAt W' b p sv ps :=
  ⟨blk_beneath h.box k, blk_beneath h.blk k, row_beneath h.row k⟩
theorem all_stops (d : Nat) (hd : 1 ≤ d) (n₀ b p : Nat) (sv : Value) (ps : List (Option Nat)) (S : Nat → Prop) (w : World) (h : SlotsAt w b p sv ps) (hSb : b < n₀ ∧ ¬ S b) (hSp : p < n₀ ∧ ¬ S p) (hSs : ∀ g, sv.ownBlock = some g → g < n₀ ∧ ¬ S g) (hl : ps.length ≤ 100000) :
    SeqT Fence.wide d Tryz.prog 99 #[.pointer (some ⟨b, 0, none⟩)] encN (fun _ _ => KeepN n₀ S) (fun xs => xs = lives ps) (fun pre => pre <+: lives ps) [] w := by
  intro l J Jx W hW hJ _ hY h0
  exact all1_in l n₀ b p sv ps S J Jx (fun T pre x W h1 h2 => yield_wide (hY T pre x W h1 h2)) hSb hSp hSs hl d hd W (h.below hW) h0
end Go.Proofs.YtmilagppbepnbaaGreat
/- A region that only reads, in a round of a range over a function: one walk for all its orders. Condition: no defer statement in it. -/
namespace Go.Proofs.YtmilagppbepnbaaGreat

end Go.Proofs.YtmilagppbepnbaaGreat
