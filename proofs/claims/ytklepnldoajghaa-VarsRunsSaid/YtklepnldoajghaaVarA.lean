/- The search in a sorted row of names: where a name stands or would stand. Condition: the row is owned and sorted. -/
import Derived.Test.YtklepnldoajghaaVarI
import Derived.Sort.Walk0
namespace Go.Proofs.Ytklepnldoajghaa
open Go.RowKit

/-- One text is ahead of another. -/
def lt (a b : ByteArray) : Bool := Op.bytesLess a.toList b.toList
theorem lt_eq (a b : ByteArray) : lt a b = decide (a.toList < b.toList) := bytesLess_eq _ _
theorem lt_irrefl (a : ByteArray) : lt a a = false := by
  rw [lt_eq]; exact decide_eq_false (List.lt_irrefl _)
theorem lt_trans {a b c : ByteArray} (h : lt a b = true) (k : lt b c = true) : lt a c = true := by
  rw [lt_eq] at *
  exact decide_eq_true (List.lt_trans (of_decide_eq_true h) (of_decide_eq_true k))
theorem toList_inj {a b : ByteArray} (h : a.toList = b.toList) : a = b := by
  rw [Lib.toList_data, Lib.toList_data] at h
  cases a with
  | mk yd => cases b with
    | mk xd => exact congrArg ByteArray.mk (Array.toList_inj.1 h)
theorem lt_total {a b : ByteArray} (h : lt a b = false) (k : lt b a = false) : a = b := by
  rw [lt_eq] at h k
  exact toList_inj (List.le_antisymm (of_decide_eq_false k) (of_decide_eq_false h))

def pos (K : List ByteArray) (x : ByteArray) : Nat := (K.takeWhile (fun y => lt y x)).length
def has (K : List ByteArray) (x : ByteArray) : Bool := decide (K[pos K x]? = some x)
def Sorted (K : List ByteArray) : Prop := K.Pairwise (fun a b => lt a b = true)

theorem pos_le (K : List ByteArray) (x : ByteArray) : pos K x ≤ K.length := (List.takeWhile_sublist _).length_le
theorem pos_below (K : List ByteArray) (x : ByteArray) : ∀ (t : Nat) (y : ByteArray), t < pos K x → K[t]? = some y → lt y x = true := by
  induction K with
  | nil => intro t y h; simp [pos] at h
  | cons k K ih =>
    intro t y ht hy
    by_cases hk : lt k x = true
    · have e : pos (k :: K) x = pos K x + 1 := by simp [pos, hk]
      cases t with
      | zero => simp at hy; rw [← hy]; exact hk
      | succ t => exact ih t y (by omega) (by simpa using hy)
    · have e : pos (k :: K) x = 0 := by simp [pos, hk]
      omega
theorem pos_above (K : List ByteArray) (x : ByteArray) (hs : Sorted K) : ∀ (t : Nat) (y : ByteArray), pos K x ≤ t → K[t]? = some y → lt y x = false := by
  induction K with
  | nil => intro t y _ h; simp at h
  | cons k K ih =>
    intro t y ht hy
    have hs' := List.pairwise_cons.1 hs
    by_cases hk : lt k x = true
    · have e : pos (k :: K) x = pos K x + 1 := by simp [pos, hk]
      cases t with
      | zero => omega
      | succ t => exact ih hs'.2 t y (by omega) (by simpa using hy)
    · cases t with
      | zero => simp at hy; rw [← hy]; simpa using hk
      | succ t =>
        have hm : lt k y = true := hs'.1 y (List.mem_of_getElem? (by simpa using hy))
        cases g : lt y x with
        | false => rfl
        | true => exact absurd (lt_trans hm g) hk

theorem flat_kcs (K : List ByteArray) : flat kcs K = K.map Value.string := by
  induction K with
  | nil => rfl
  | cons k K ih => exact congrArg (Value.string k :: ·) ih

theorem search_any (n₀ : Nat) (K : List ByteArray) (x : ByteArray) (kv : Value) (w : World) (hrow : w.ownsRow n₀ 9 1 kv K.length (flat kcs K)) (hlen : K.length ≤ 100000) (hs : Sorted K) :
    Calls Try.prog 45 #[kv, .string x] w fun e w' => e = .returned (.tuple #[.int .i64 (pos K x : Nat), .bool (has K x)]) ∧ ∃ q, w' = w.drewN q := by
  rcases hrow.2 with ⟨rfl, h0⟩ | ⟨g, cap, cur, rfl, _, hg, _, _, _, htk⟩
  · obtain rfl : K = [] := List.eq_nil_of_length_eq_zero h0
    refine (Any2.slices_BinarySearch_string_empty Try.laysNm226 none 0 x w).mono ?_
    rintro e w' ⟨rfl, rfl⟩
    exact ⟨rfl, 0, rfl⟩
  · have hc : ∀ j, j < K.length → w.cell? ⟨g, 0 + j, none⟩ = some (.string (K.getD j x)) := fun j hj => by
      have e := cell_of_row w g j cur 9 (0, 0) hg
      rw [Nat.zero_add, e]
      have e2 : (cur.toList.take (K.length * 1))[j]? = some (Value.string (K.getD j x)) := by
        rw [htk, flat_kcs, List.getElem?_map, List.getD_eq_getElem?_getD, List.getElem?_eq_getElem hj]; rfl
      rw [List.getElem?_take_of_lt (by omega), Array.getElem?_toList] at e2
      exact e2
    refine (Any2.slices_BinarySearch_string Try.laysNm226 g 0 K.length cap (fun t => K.getD t x) x w (by omega) hc).mono ?_
    have e1 : Lib.bsGo (fun t => Op.bytesLess (K.getD t x).toList x.toList) K.length 0 K.length = pos K x := by
      refine Lib.bsGo_spec _ (pos K x) (fun t ht => ?_) (fun t ht => ?_) _ 0 K.length (by omega) (Nat.zero_le _) (pos_le K x)
      · have hl := pos_le K x
        have h := pos_below K x t (K[t]'(by omega)) ht (List.getElem?_eq_getElem _)
        rw [List.getD_eq_getElem?_getD, List.getElem?_eq_getElem (by omega)]
        exact h
      · by_cases hl : t < K.length
        · have h := pos_above K x hs t (K[t]'hl) ht (List.getElem?_eq_getElem _)
          rw [List.getD_eq_getElem?_getD, List.getElem?_eq_getElem hl]
          exact h
        · rw [List.getD_eq_getElem?_getD, List.getElem?_eq_none (by omega)]
          exact lt_irrefl x
    rintro e w' ⟨rfl, hq⟩
    refine ⟨?_, hq⟩
    simp only [e1]
    have e3 : decide (pos K x < K.length ∧ K.getD (pos K x) x = x) = has K x := by
      unfold has
      by_cases hl : pos K x < K.length
      · rw [List.getD_eq_getElem?_getD, List.getElem?_eq_getElem hl]
        simp [hl]
      · rw [List.getElem?_eq_none (by omega)]
        simp [hl]
    rw [e3]

end Go.Proofs.Ytklepnldoajghaa
