/- The exported names behind each call: plain, and as contracts beside the map. Condition: the variables lie as stated; each has the one value. -/
import Derived.Test.YtklepnldoajghaaVarBA
import Derived.Test.YtklepnldoajghaaVarT
namespace Go.Proofs.Ytklepnldoajghaa
open Go.RowKit

/-- The exported names. -/
def exN (L : Vl) : List ByteArray := (L.filter (fun x => x.2.ex)).map (·.1)
def VL (v : ByteArray) (L : Vl) : Prop := ∀ x ∈ L, x.2.val = v ∧ x.2.st = true ∧ x.2.ro = false ∧ x.1.size ≤ 140737488355328
theorem mem_exN {L : Vl} {n : ByteArray} : n ∈ exN L ↔ ∃ y, (n, y) ∈ L ∧ y.ex = true := by
  unfold exN
  rw [List.mem_map]
  constructor
  · rintro ⟨⟨a, y⟩, h, rfl⟩
    rw [List.mem_filter] at h
    exact ⟨y, h⟩
  · rintro ⟨y, h1, h2⟩
    exact ⟨(n, y), List.mem_filter.2 ⟨h1, h2⟩, rfl⟩
theorem exN_sorted {L : Vl} (hs : Sorted (ks L)) : Sorted (exN L) := by
  have : (exN L).Sublist (ks L) := by unfold exN ks; exact (List.filter_sublist (l := L)).map _
  exact List.Pairwise.sublist this hs
theorem exN_len (L : Vl) : (exN L).length ≤ L.length := by
  unfold exN
  rw [List.length_map]
  exact List.length_filter_le _ _
theorem sorted_ext : ∀ {A B : List ByteArray}, Sorted A → Sorted B → (∀ x, x ∈ A ↔ x ∈ B) → A = B
  | [], [], _, _, _ => rfl
  | [], b :: B, _, _, h => by have := (h b).2 (List.mem_cons_self ..); cases this
  | a :: A, [], _, _, h => by have := (h a).1 (List.mem_cons_self ..); cases this
  | a :: A, b :: B, hA, hB, h => by
    have hA' := List.pairwise_cons.1 hA
    have hB' := List.pairwise_cons.1 hB
    have hab : a = b := by
      rcases List.mem_cons.1 ((h a).1 (List.mem_cons_self ..)) with e | e
      · exact e
      · rcases List.mem_cons.1 ((h b).2 (List.mem_cons_self ..)) with e' | e'
        · exact e'.symm
        · have := lt_trans (hA'.1 b e') (hB'.1 a e)
          rw [lt_irrefl] at this
          cases this
    subst hab
    have key : ∀ {C : List ByteArray}, (∀ x ∈ C, lt a x = true) → a ∉ C := fun hC hm => by
      have := hC a hm
      rw [lt_irrefl] at this
      cases this
    refine congrArg (a :: ·) (sorted_ext hA'.2 hB'.2 (fun x => ?_))
    constructor
    · intro hx
      rcases List.mem_cons.1 ((h x).1 (List.mem_cons_of_mem _ hx)) with e | e
      · subst e; exact absurd hx (key hA'.1)
      · exact e
    · intro hx
      rcases List.mem_cons.1 ((h x).2 (List.mem_cons_of_mem _ hx)) with e | e
      · subst e; exact absurd hx (key hB'.1)
      · exact e
/-- One name more. -/
theorem len_more {A B : List ByteArray} {n : ByteArray} (hA : Sorted A) (hB : Sorted B) (h : ∀ x, x ∈ B ↔ x = n ∨ x ∈ A) : B.length = if has A n then A.length else A.length + 1 := by
  cases g : has A n with
  | true =>
    have e := (has_iff hA).1 g
    rw [sorted_ext hB hA (fun x => (h x).trans ⟨fun g => by rcases g with rfl | g; exact e; exact g, .inr⟩)]
    rfl
  | false =>
    rw [sorted_ext hB (sorted_ins hA g) (fun x => (h x).trans mem_ins.symm), ins_len _ _ _ (pos_le _ _)]
    rfl
/-- One name less. -/
theorem len_less {A B : List ByteArray} {n : ByteArray} (hA : Sorted A) (hB : Sorted B) (h : ∀ x, x ∈ B ↔ x ≠ n ∧ x ∈ A) : B.length + (if has A n then 1 else 0) = A.length := by
  cases g : has A n with
  | true =>
    have e := (has_iff hA).1 g
    have hn : has B n = false := by
      cases g2 : has B n with
      | false => rfl
      | true => exact absurd rfl ((h n).1 ((has_iff hB).1 g2)).1
    have e2 := len_more (n := n) hB hA (fun x => ⟨fun g => by
      by_cases q : x = n
      · exact .inl q
      · exact .inr ((h x).2 ⟨q, g⟩), fun g => by
      rcases g with rfl | g
      · exact e
      · exact ((h x).1 g).2⟩)
    rw [hn] at e2
    simp at e2 ⊢
    omega
  | false =>
    have e : n ∉ A := fun q => by rw [(has_iff hA).2 q] at g; cases g
    rw [sorted_ext hB hA (fun x => (h x).trans ⟨fun g => g.2, fun g => ⟨fun q => e (q ▸ g), g⟩⟩)]
    rfl
theorem has_more {A B : List ByteArray} {n : ByteArray} (hA : Sorted A) (hB : Sorted B) (h : ∀ x, x ∈ B ↔ x = n ∨ x ∈ A) (x : ByteArray) : has B x = (decide (x = n) || has A x) := by
  rw [Bool.eq_iff_iff, has_iff hB, Bool.or_eq_true, decide_eq_true_iff, has_iff hA]
  exact h x
theorem has_less {A B : List ByteArray} {n : ByteArray} (hA : Sorted A) (hB : Sorted B) (h : ∀ x, x ∈ B ↔ x ≠ n ∧ x ∈ A) (x : ByteArray) : has B x = (!decide (x = n) && has A x) := by
  rw [Bool.eq_iff_iff, has_iff hB, Bool.and_eq_true, Bool.not_eq_true', decide_eq_false_iff_not, has_iff hA]
  exact h x

theorem setL_len (L : Vl) (x : ByteArray) (y : Vb) : (setL L x y).length ≤ L.length + 1 := by
  unfold setL
  split
  · rw [List.length_set]; omega
  · rw [ins_len _ _ _ (by rw [← ks_len]; exact pos_le _ _)]; omega
theorem setL_len_has {L : Vl} {x : ByteArray} (y : Vb) (h : has (ks L) x = true) : (setL L x y).length = L.length := by
  unfold setL
  rw [if_pos h, List.length_set]
theorem VL.setL {v : ByteArray} {L : Vl} (h : VL v L) (hs : Sorted (ks L)) (x : ByteArray) (e : Bool) (hx : x.size ≤ 140737488355328) : VL v (setL L x ⟨v, true, e, false⟩) := fun ⟨z, u⟩ hz => by
  rcases (mem_setL hs).1 hz with ⟨rfl, rfl⟩ | ⟨_, hz⟩
  · exact ⟨rfl, rfl, rfl, hx⟩
  · exact h _ hz
theorem VL.cutL {v : ByteArray} {L : Vl} (h : VL v L) (hs : Sorted (ks L)) (x : ByteArray) : VL v (cutL L x) := fun _ hz => h _ ((mem_cutL hs).1 hz).2
theorem got_ex {L : Vl} {x : ByteArray} (hs : Sorted (ks L)) : (got L x).ex = true ↔ x ∈ exN L := by
  rw [mem_exN]
  by_cases g : ∃ y, (x, y) ∈ L
  · obtain ⟨y, hy⟩ := g
    rw [got_of hs hy]
    refine ⟨fun e => ⟨y, hy, e⟩, ?_⟩
    rintro ⟨y', h1, h2⟩
    rw [← got_of hs hy, got_of hs h1]
    exact h2
  · rw [got_not hs (fun y hy => g ⟨y, hy⟩)]
    refine ⟨fun e => (by cases e), ?_⟩
    rintro ⟨y', h1, _⟩
    exact absurd ⟨y', h1⟩ g
theorem got_VL {v : ByteArray} {L : Vl} {x : ByteArray} (hs : Sorted (ks L)) (h : VL v L) (hh : has (ks L) x = true) : ∃ e, got L x = ⟨v, true, e, false⟩ := by
  obtain ⟨y, hy⟩ := of_ks ((has_iff hs).1 hh)
  obtain ⟨h1, h2, h3, _⟩ := h _ hy
  obtain ⟨a, b, c, d⟩ := y
  simp only at h1 h2 h3
  subst h1 h2 h3
  exact ⟨c, got_of hs hy⟩
theorem got_ro {v : ByteArray} {L : Vl} {x : ByteArray} (hs : Sorted (ks L)) (h : VL v L) : (got L x).ro = false := by
  cases hh : has (ks L) x with
  | false => rw [got_no hh]; rfl
  | true => obtain ⟨e, he⟩ := got_VL hs h hh; rw [he]
theorem exN_setL {L : Vl} {x : ByteArray} {y : Vb} (hs : Sorted (ks L)) (z : ByteArray) : z ∈ exN (setL L x y) ↔ (z = x ∧ y.ex = true) ∨ (z ≠ x ∧ z ∈ exN L) := by
  rw [mem_exN, mem_exN]
  constructor
  · rintro ⟨u, hu, he⟩
    rcases (mem_setL hs).1 hu with ⟨rfl, rfl⟩ | ⟨hne, hu⟩
    · exact .inl ⟨rfl, he⟩
    · exact .inr ⟨hne, u, hu, he⟩
  · rintro (⟨rfl, he⟩ | ⟨hne, u, hu, he⟩)
    · exact ⟨y, (mem_setL hs).2 (.inl ⟨rfl, rfl⟩), he⟩
    · exact ⟨u, (mem_setL hs).2 (.inr ⟨hne, hu⟩), he⟩
theorem exN_cutL {L : Vl} {x : ByteArray} (hs : Sorted (ks L)) (z : ByteArray) : z ∈ exN (cutL L x) ↔ z ≠ x ∧ z ∈ exN L := by
  rw [mem_exN, mem_exN]
  constructor
  · rintro ⟨u, hu, he⟩
    exact ⟨((mem_cutL hs).1 hu).1, u, ((mem_cutL hs).1 hu).2, he⟩
  · rintro ⟨hne, u, hu, he⟩
    exact ⟨u, (mem_cutL hs).2 ⟨hne, hu⟩, he⟩
theorem cutL_len (L : Vl) (x : ByteArray) : (cutL L x).length ≤ L.length := by
  unfold cutL
  split
  · exact (List.eraseIdx_sublist _ _).length_le
  · exact Nat.le_refl _

/-- What the program tells of the environment, in one value's words. -/
theorem envL_exN {v : ByteArray} : ∀ {L : Vl}, VL v L → envL L = (exN L).map (fun n => n ++ ⟨#[61]⟩ ++ v)
  | [], _ => rfl
  | x :: L, h => by
    have ih := envL_exN (L := L) (fun y hy => h y (List.mem_cons_of_mem _ hy))
    obtain ⟨h1, h2, _, _⟩ := h x (List.mem_cons_self ..)
    unfold envL
    cases e : x.2.ex with
    | true =>
      rw [if_pos ⟨rfl, h2⟩, ih, h1]
      unfold exN
      rw [List.filter_cons_of_pos (by simpa using e)]
      rfl
    | false =>
      rw [if_neg (by simp), ih]
      unfold exN
      rw [List.filter_cons_of_neg (by simp [e])]
end Go.Proofs.Ytklepnldoajghaa
