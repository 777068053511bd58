/- cmp.Compare of two ints. No condition. -/
import Derived.Test.YtmilagppbepnbaaGreatKrM
namespace Go.Proofs.YtmilagppbepnbaaGreat
open Go.RowKit Go.PlainAid
set_option linter.unusedVariables false
set_option linter.unusedSimpArgs false
attribute [local go_sem] Oper.semAt_some
def cmpI (a b : Int) : Int := if a < b then -1 else if b < a then 1 else 0
theorem isNaN_int (x : Int) (w : World) : Calls Tryz.prog 234 #[.int .i64 x] w fun e w' => e = .returned (.bool false) ∧ w' = w := by
  go_enter Tryz.func234, Tryz.ntmps234
  go_wp2
  go_ret
  exact ⟨by first | rfl | simp, rfl⟩
theorem compare_int (a b : Int) (w : World) : Calls Tryz.prog 167 #[.int .i64 a, .int .i64 b] w fun e w' => e = .returned (.int .i64 (cmpI a b)) ∧ w' = w := by
  rcases Int.lt_trichotomy a b with h | h | h
  · have hc : cmpI a b = -1 := by unfold cmpI; rw [if_pos h]
    rw [hc]
    clear hc
    have h2 : decide (a < b) = true := decide_eq_true h
    go_enter Tryz.func167, Tryz.ntmps167
    go_wp2_with (go_at_call 234; refine (isNaN_int _ _).mono ?_; rintro e w' ⟨rfl, rfl⟩)
    go_ret
    exact ⟨rfl, rfl⟩
  · subst h
    have hc : cmpI a a = 0 := by unfold cmpI; rw [if_neg (by omega), if_neg (by omega)]
    rw [hc]
    clear hc
    have h2 : decide (a < a) = false := decide_eq_false (by omega)
    go_enter Tryz.func167, Tryz.ntmps167
    go_wp2_with (go_at_call 234; refine (isNaN_int _ _).mono ?_; rintro e w' ⟨rfl, rfl⟩)
    go_ret
    exact ⟨rfl, rfl⟩
  · have hc : cmpI a b = 1 := by unfold cmpI; rw [if_neg (by omega), if_pos h]
    rw [hc]
    clear hc
    have h2 : decide (a < b) = false := decide_eq_false (by omega)
    have h3 : decide (a > b) = true := decide_eq_true h
    go_enter Tryz.func167, Tryz.ntmps167
    go_wp2_with (go_at_call 234; refine (isNaN_int _ _).mono ?_; rintro e w' ⟨rfl, rfl⟩)
    go_ret
    exact ⟨rfl, rfl⟩
/-- A register: its row and its last number, in a block with other things. -/
structure RegAt (ty : TypeId) (w : World) (q o : Nat) (T : TypeId) (cs : Array Value) (v : Value) (last : Nat) (l : List Rw) : Prop where
  blk : Blk w q T cs
  c0 : cs[o]? = some v
  c1 : cs[o + 1]? = some (.int .i64 last)
  row : w.ownsRow 0 ty 2 v l.length (flat rcs l)
  ord : Ord l
  le : ∀ r ∈ l, r.1 ≤ last
  small : last ≤ 1000000
theorem RegAt.keep {ty : TypeId} {w w' : World} {q o : Nat} {T : TypeId} {cs : Array Value} {v : Value} {last : Nat} {l : List Rw} (h : RegAt ty w q o T cs v last l) (hq : w'.heap[q]? = w.heap[q]?) (hv : ∀ g, v.ownBlock = some g → w'.heap[g]? = w.heap[g]?) : RegAt ty w' q o T cs v last l :=
  ⟨h.blk.keep hq, h.c0, h.c1, row_keep h.row hv, h.ord, h.le, h.small⟩
theorem RegAt.below {ty : TypeId} {w w' : World} {q o : Nat} {T : TypeId} {cs : Array Value} {v : Value} {last : Nat} {l : List Rw} (h : RegAt ty w q o T cs v last l) (hb : Below w.heap.size w w') : RegAt ty w' q o T cs v last l :=
  h.keep (hb.block q h.blk.lt) (fun g hg => hb.block g (row_lt h.row hg))
theorem set_sameC {cs : Array Value} {o : Nat} {v : Value} (h : cs[o]? = some v) : cs.setIfInBounds o v = cs := by
  apply Array.ext_getElem?
  intro i
  by_cases e : o = i
  · subst e
    rw [Array.getElem?_setIfInBounds_self_of_lt (Array.getElem?_eq_some_iff.1 h).1, h]
  · rw [Array.getElem?_setIfInBounds_ne e]
theorem erase_ord {l : List Rw} (h : Ord l) (i : Nat) : Ord (l.eraseIdx i) := by
  unfold Ord at *
  exact List.Pairwise.sublist ((List.eraseIdx_sublist l i).map _) h
/-- Without a number. -/
def cutN (l : List Rw) (x : Int) : List Rw := if hasN l x then l.eraseIdx (posN l x) else l
theorem ord_len {l : List Rw} {last : Nat} (h : Ord l) (hl : ∀ r ∈ l, r.1 ≤ last) (h1 : ∀ r ∈ l, 1 ≤ r.1) : l.length ≤ last := by
  have key : ∀ (l : List Nat) (a : Nat), l.Pairwise (· < ·) → (∀ x ∈ l, a < x ∧ x ≤ last) → l.length + a ≤ last ∨ l = [] := by
    intro l
    induction l with
    | nil => intro a _ _; exact .inr rfl
    | cons x l ih =>
      intro a hp hx
      rw [List.pairwise_cons] at hp
      have h0 := hx x (List.mem_cons_self ..)
      rcases ih x hp.2 (fun y hy => ⟨hp.1 y hy, (hx y (List.mem_cons_of_mem _ hy)).2⟩) with h2 | h2
      · left; rw [List.length_cons]; omega
      · left; rw [h2]; simp; omega
  rcases key (l.map (fun r : Rw => r.1)) 0 h (fun x hx => by
    obtain ⟨r, hr, rfl⟩ := List.mem_map.1 hx
    exact ⟨h1 r hr, hl r hr⟩) with h2 | h2
  · simpa using h2
  · have : l = [] := List.map_eq_nil_iff.1 h2
    rw [this]; simp
end Go.Proofs.YtmilagppbepnbaaGreat
