/- A way along a path, up to its last piece. Condition: the tree lies as stated, and leads where there is something. -/
import Derived.Test.YtohgecmbkjienaaFlV
namespace Go.Proofs.Ytohgecmbkjienaa
open Go.RowKit Go.Shelf Go.PlainAid
attribute [local go_sem] Oper.semAt_some

theorem aheads_first (f : Fs) (n : Int) (x : ByteArray) {last : ByteArray} (h : last.size = 0) (l : List ByteArray) : aheadsM f n last (x :: l) = aheadsM f n x l := by rw [aheadsM, if_pos h]
theorem aheads_on (f : Fs) (n : Int) (x : ByteArray) {last : ByteArray} (h : last.size ≠ 0) (h1 : (stepM f n last).2 = 0) (l : List ByteArray) : aheadsM f n last (x :: l) = aheadsM f (stepM f n last).1 x l := by rw [aheadsM, if_neg h, if_neg (fun h' => h' h1)]
theorem aheads_off (f : Fs) (n : Int) (x : ByteArray) {last : ByteArray} (h : last.size ≠ 0) (h1 : (stepM f n last).2 ≠ 0) (l : List ByteArray) : aheadsM f n last (x :: l) = (0, ⟨#[]⟩, (stepM f n last).2) := by rw [aheadsM, if_neg h, if_pos h1]
theorem aheads_snoc (f : Fs) (x : ByteArray) : ∀ (l : List ByteArray) (n : Int) (last : ByteArray), (aheadsM f n last l).2.2 = 0 → aheadsM f n last (l ++ [x]) = aheadsM f (aheadsM f n last l).1 (aheadsM f n last l).2.1 [x]
  | [], n, last, _ => rfl
  | p :: l, n, last, h => by
    by_cases h0 : last.size = 0
    · rw [aheads_first f n p h0] at h ⊢
      rw [List.cons_append, aheads_first f n p h0]
      exact aheads_snoc f x l _ _ h
    · by_cases h1 : (stepM f n last).2 = 0
      · rw [aheads_on f n p h0 h1] at h ⊢
        rw [List.cons_append, aheads_on f n p h0 h1]
        exact aheads_snoc f x l _ _ h
      · rw [aheads_off f n p h0 h1] at h; exact absurd h h1
theorem aheads_bad (f : Fs) : ∀ (l t : List ByteArray) (n : Int) (last : ByteArray), (aheadsM f n last l).2.2 ≠ 0 → aheadsM f n last (l ++ t) = (0, ⟨#[]⟩, (aheadsM f n last l).2.2)
  | [], _, _, _, h => absurd rfl h
  | p :: l, t, n, last, h => by
    by_cases h0 : last.size = 0
    · rw [aheads_first f n p h0] at h ⊢
      rw [List.cons_append, aheads_first f n p h0]
      exact aheads_bad f l t _ _ h
    · by_cases h1 : (stepM f n last).2 = 0
      · rw [aheads_on f n p h0 h1] at h ⊢
        rw [List.cons_append, aheads_on f n p h0 h1]
        exact aheads_bad f l t _ _ h
      · rw [aheads_off f n p h0 h1, List.cons_append, aheads_off f n p h0 h1]
theorem aheads_live {f : Fs} (hc : Closed f) : ∀ (l : List ByteArray) (n : Int) (last : ByteArray), (node f n).isSome → (aheadsM f n last l).2.2 = 0 → (node f (aheadsM f n last l).1).isSome
  | [], _, _, h, _ => h
  | p :: l, n, last, h, h9 => by
    by_cases h0 : last.size = 0
    · rw [aheads_first f n p h0] at h9 ⊢
      exact aheads_live hc l _ _ h h9
    · by_cases h1 : (stepM f n last).2 = 0
      · rw [aheads_on f n p h0 h1] at h9 ⊢
        exact aheads_live hc l _ _ (hc.2 _ _ h h1) h9
      · rw [aheads_off f n p h0 h1] at h9; exact absurd h9 h1
theorem tri {z : Nat} {W : World} {a b c : Value} (m1 : Blk W (z + 1) 3 #[a]) (m2 : Blk W (z + 2) 9 #[b]) (m3 : Blk W (z + 3) 37 #[c]) (u v x : Value) {W2 : World} (h : W2 = (((W.setCell ⟨z + 1, 0, none⟩ u).setCell ⟨z + 2, 0, none⟩ v).setCell ⟨z + 3, 0, none⟩ x) ∨ W2 = (((W.setCell ⟨z + 1, 0, none⟩ u).setCell ⟨z + 3, 0, none⟩ x).setCell ⟨z + 2, 0, none⟩ v) ∨ W2 = (((W.setCell ⟨z + 2, 0, none⟩ v).setCell ⟨z + 1, 0, none⟩ u).setCell ⟨z + 3, 0, none⟩ x) ∨ W2 = (((W.setCell ⟨z + 2, 0, none⟩ v).setCell ⟨z + 3, 0, none⟩ x).setCell ⟨z + 1, 0, none⟩ u) ∨ W2 = (((W.setCell ⟨z + 3, 0, none⟩ x).setCell ⟨z + 1, 0, none⟩ u).setCell ⟨z + 2, 0, none⟩ v) ∨ W2 = (((W.setCell ⟨z + 3, 0, none⟩ x).setCell ⟨z + 2, 0, none⟩ v).setCell ⟨z + 1, 0, none⟩ u)) :
    Blk W2 (z + 1) 3 #[u] ∧ Blk W2 (z + 2) 9 #[v] ∧ Blk W2 (z + 3) 37 #[x] ∧ (∀ g, g ≠ z + 1 → g ≠ z + 2 → g ≠ z + 3 → W2.heap[g]? = W.heap[g]?) ∧ W2.os = W.os ∧ W2.tape = W.tape ∧ W2.output = W.output ∧ W2.heap.size = W.heap.size := by
  rcases h with rfl | rfl | rfl | rfl | rfl | rfl
  · exact ⟨(((m1.set_ 0 u).far (p := ⟨z + 2, 0, none⟩) (by show z + 1 ≠ z + 2; omega) v).far (p := ⟨z + 3, 0, none⟩) (by show z + 1 ≠ z + 3; omega) x), (((m2.far (p := ⟨z + 1, 0, none⟩) (by show z + 2 ≠ z + 1; omega) u).set_ 0 v).far (p := ⟨z + 3, 0, none⟩) (by show z + 2 ≠ z + 3; omega) x), (((m3.far (p := ⟨z + 1, 0, none⟩) (by show z + 3 ≠ z + 1; omega) u).far (p := ⟨z + 2, 0, none⟩) (by show z + 3 ≠ z + 2; omega) v).set_ 0 x), fun g h1 h2 h3 => (Below.heap_setCell _ _ _ _ (fun e => h3 e)).trans ((Below.heap_setCell _ _ _ _ (fun e => h2 e)).trans (Below.heap_setCell _ _ _ _ (fun e => h1 e))), rfl, rfl, rfl, by simp⟩
  · exact ⟨(((m1.set_ 0 u).far (p := ⟨z + 3, 0, none⟩) (by show z + 1 ≠ z + 3; omega) x).far (p := ⟨z + 2, 0, none⟩) (by show z + 1 ≠ z + 2; omega) v), (((m2.far (p := ⟨z + 1, 0, none⟩) (by show z + 2 ≠ z + 1; omega) u).far (p := ⟨z + 3, 0, none⟩) (by show z + 2 ≠ z + 3; omega) x).set_ 0 v), (((m3.far (p := ⟨z + 1, 0, none⟩) (by show z + 3 ≠ z + 1; omega) u).set_ 0 x).far (p := ⟨z + 2, 0, none⟩) (by show z + 3 ≠ z + 2; omega) v), fun g h1 h2 h3 => (Below.heap_setCell _ _ _ _ (fun e => h2 e)).trans ((Below.heap_setCell _ _ _ _ (fun e => h3 e)).trans (Below.heap_setCell _ _ _ _ (fun e => h1 e))), rfl, rfl, rfl, by simp⟩
  · exact ⟨(((m1.far (p := ⟨z + 2, 0, none⟩) (by show z + 1 ≠ z + 2; omega) v).set_ 0 u).far (p := ⟨z + 3, 0, none⟩) (by show z + 1 ≠ z + 3; omega) x), (((m2.set_ 0 v).far (p := ⟨z + 1, 0, none⟩) (by show z + 2 ≠ z + 1; omega) u).far (p := ⟨z + 3, 0, none⟩) (by show z + 2 ≠ z + 3; omega) x), (((m3.far (p := ⟨z + 2, 0, none⟩) (by show z + 3 ≠ z + 2; omega) v).far (p := ⟨z + 1, 0, none⟩) (by show z + 3 ≠ z + 1; omega) u).set_ 0 x), fun g h1 h2 h3 => (Below.heap_setCell _ _ _ _ (fun e => h3 e)).trans ((Below.heap_setCell _ _ _ _ (fun e => h1 e)).trans (Below.heap_setCell _ _ _ _ (fun e => h2 e))), rfl, rfl, rfl, by simp⟩
  · exact ⟨(((m1.far (p := ⟨z + 2, 0, none⟩) (by show z + 1 ≠ z + 2; omega) v).far (p := ⟨z + 3, 0, none⟩) (by show z + 1 ≠ z + 3; omega) x).set_ 0 u), (((m2.set_ 0 v).far (p := ⟨z + 3, 0, none⟩) (by show z + 2 ≠ z + 3; omega) x).far (p := ⟨z + 1, 0, none⟩) (by show z + 2 ≠ z + 1; omega) u), (((m3.far (p := ⟨z + 2, 0, none⟩) (by show z + 3 ≠ z + 2; omega) v).set_ 0 x).far (p := ⟨z + 1, 0, none⟩) (by show z + 3 ≠ z + 1; omega) u), fun g h1 h2 h3 => (Below.heap_setCell _ _ _ _ (fun e => h1 e)).trans ((Below.heap_setCell _ _ _ _ (fun e => h3 e)).trans (Below.heap_setCell _ _ _ _ (fun e => h2 e))), rfl, rfl, rfl, by simp⟩
  · exact ⟨(((m1.far (p := ⟨z + 3, 0, none⟩) (by show z + 1 ≠ z + 3; omega) x).set_ 0 u).far (p := ⟨z + 2, 0, none⟩) (by show z + 1 ≠ z + 2; omega) v), (((m2.far (p := ⟨z + 3, 0, none⟩) (by show z + 2 ≠ z + 3; omega) x).far (p := ⟨z + 1, 0, none⟩) (by show z + 2 ≠ z + 1; omega) u).set_ 0 v), (((m3.set_ 0 x).far (p := ⟨z + 1, 0, none⟩) (by show z + 3 ≠ z + 1; omega) u).far (p := ⟨z + 2, 0, none⟩) (by show z + 3 ≠ z + 2; omega) v), fun g h1 h2 h3 => (Below.heap_setCell _ _ _ _ (fun e => h2 e)).trans ((Below.heap_setCell _ _ _ _ (fun e => h1 e)).trans (Below.heap_setCell _ _ _ _ (fun e => h3 e))), rfl, rfl, rfl, by simp⟩
  · exact ⟨(((m1.far (p := ⟨z + 3, 0, none⟩) (by show z + 1 ≠ z + 3; omega) x).far (p := ⟨z + 2, 0, none⟩) (by show z + 1 ≠ z + 2; omega) v).set_ 0 u), (((m2.far (p := ⟨z + 3, 0, none⟩) (by show z + 2 ≠ z + 3; omega) x).set_ 0 v).far (p := ⟨z + 1, 0, none⟩) (by show z + 2 ≠ z + 1; omega) u), (((m3.set_ 0 x).far (p := ⟨z + 2, 0, none⟩) (by show z + 3 ≠ z + 2; omega) v).far (p := ⟨z + 1, 0, none⟩) (by show z + 3 ≠ z + 1; omega) u), fun g h1 h2 h3 => (Below.heap_setCell _ _ _ _ (fun e => h1 e)).trans ((Below.heap_setCell _ _ _ _ (fun e => h2 e)).trans (Below.heap_setCell _ _ _ _ (fun e => h3 e))), rfl, rfl, rfl, by simp⟩
end Go.Proofs.Ytohgecmbkjienaa
