/- The pieces of a path; begin, endsWithSlash. No condition but the text's size. -/
import Derived.Test.YtohgecmbkjienaaFlR
import Derived.Lib.IndexLaws
import Derived.Lib.IndexBytes
namespace Go.Proofs.Ytohgecmbkjienaa
open Go.RowKit Go.Shelf Go.PlainAid
attribute [local go_sem] Oper.semAt_some

set_option maxHeartbeats 1000000 in
theorem cutl_some (t : ByteArray) (k : Nat) (hs : t.size ≤ maxLen) (hk : k < t.size) (h : Lib.indexByte t.data.toList 47 = k) (w : World) : Calls Try.prog 81 #[.string t, .string ⟨#[47]⟩] w fun e w' => e = .returned (.tuple #[.string (t.extract 0 k), .string (t.extract (k + 1) t.size), .bool true]) ∧ ∃ m, w' = w.drewN m := by
  unfold maxLen at hs
  go_enter Try.func81, Try.ntmps81
  go_wp2_with (go_at_call 84; refine (Try.stringslite_Index_one t 47 _).mono ?_; rintro e w' ⟨rfl, rfl⟩; rw [h])
  go_quiet (fail)
  go_wp2
  go_ret3
  exact ⟨rfl, _, rfl⟩
set_option maxHeartbeats 1000000 in
theorem cutl_none (t : ByteArray) (h : Lib.indexByte t.data.toList 47 = -1) (w : World) : Calls Try.prog 81 #[.string t, .string ⟨#[47]⟩] w fun e w' => e = .returned (.tuple #[.string t, .string ⟨#[]⟩, .bool false]) ∧ ∃ m, w' = w.drewN m := by
  go_enter Try.func81, Try.ntmps81
  go_wp2_with (go_at_call 84; refine (Try.stringslite_Index_one t 47 _).mono ?_; rintro e w' ⟨rfl, rfl⟩; rw [h])
  go_ret3
  exact ⟨rfl, 0, rfl⟩
/-- What stands ahead of the first /, and behind it. -/
def headP (t : ByteArray) : ByteArray := if 0 ≤ Lib.indexByte t.data.toList 47 then t.extract 0 (Lib.indexByte t.data.toList 47).toNat else t
def tailP (t : ByteArray) : ByteArray := if 0 ≤ Lib.indexByte t.data.toList 47 then t.extract ((Lib.indexByte t.data.toList 47).toNat + 1) t.size else ⟨#[]⟩
def slashP (t : ByteArray) : Bool := decide (0 ≤ Lib.indexByte t.data.toList 47)
theorem idx_lt {l : List UInt8} {c : UInt8} (h : 0 ≤ Lib.indexByte l c) : (Lib.indexByte l c).toNat < l.length := by
  have h1 := (Lib.indexByte_some (l := l) (c := c) (o := (Lib.indexByte l c).toNat) (by omega)).1
  exact (List.getElem?_eq_some_iff.1 h1).1
theorem idx_neg' : ∀ (l : List UInt8) (c : UInt8), -1 ≤ Lib.indexByte l c
  | [], _ => by simp [Lib.indexByte]
  | b :: l, c => by
    have := idx_neg' l c
    unfold Lib.indexByte
    split
    · omega
    · split
      · omega
      · omega
theorem cut_any' (t : ByteArray) (w : World) (hs : t.size ≤ maxLen) : Calls Try.prog 74 #[.string t, .string ⟨#[47]⟩] w fun e w' => e = .returned (.tuple #[.string (headP t), .string (tailP t), .bool (slashP t)]) ∧ ∃ m, w' = w.drewN m := by
  by_cases h : 0 ≤ Lib.indexByte t.data.toList 47
  · have h1 : headP t = t.extract 0 (Lib.indexByte t.data.toList 47).toNat := by unfold headP; rw [if_pos h]
    have h2 : tailP t = t.extract ((Lib.indexByte t.data.toList 47).toNat + 1) t.size := by unfold tailP; rw [if_pos h]
    have h3 : slashP t = true := decide_eq_true h
    rw [h1, h2, h3]
    obtain ⟨k, hk⟩ : ∃ k, (Lib.indexByte t.data.toList 47).toNat = k := ⟨_, rfl⟩
    have hkl := idx_lt h
    rw [hk] at hkl ⊢
    have hc := Lib.hid (cutl_some t k hs (by rw [Array.length_toList] at hkl; exact hkl) (by omega))
    clear h h1 h2 h3 hk hkl
    go_enter Try.func74, Try.ntmps74
    go_wp2_with (go_at_call 81; refine (hc.out _).mono ?_; rintro e w' ⟨rfl, m, rfl⟩)
    go_ret3
    exact ⟨rfl, _, rfl⟩
  · have h1 : headP t = t := by unfold headP; rw [if_neg h]
    have h2 : tailP t = ⟨#[]⟩ := by unfold tailP; rw [if_neg h]
    have h3 : slashP t = false := decide_eq_false h
    rw [h1, h2, h3]
    have hc := Lib.hid (cutl_none t (by have := idx_neg' t.data.toList 47; omega))
    clear h h1 h2 h3
    go_enter Try.func74, Try.ntmps74
    go_wp2_with (go_at_call 81; refine (hc.out _).mono ?_; rintro e w' ⟨rfl, m, rfl⟩)
    go_ret3
    exact ⟨rfl, _, rfl⟩

theorem go_slash : ∀ (a acc r : List UInt8), (∀ x ∈ a, x ≠ 47) → piecesGo acc (a ++ 47 :: r) = (if acc ++ a = [] then [] else [acc ++ a]) ++ piecesGo [] r
  | [], acc, r, _ => by
    rw [List.nil_append, piecesGo, if_pos rfl, List.append_nil]
    by_cases h : acc = []
    · rw [if_pos h, if_pos h]; rfl
    · rw [if_neg h, if_neg h]; rfl
  | b :: a, acc, r, h => by
    rw [List.cons_append, piecesGo, if_neg (h b (List.mem_cons_self ..)), go_slash a (acc ++ [b]) r (fun x hx => h x (List.mem_cons_of_mem _ hx))]
    simp
theorem go_end : ∀ (a acc : List UInt8), (∀ x ∈ a, x ≠ 47) → piecesGo acc a = if acc ++ a = [] then [] else [acc ++ a]
  | [], acc, _ => by rw [piecesGo, List.append_nil]
  | b :: a, acc, h => by
    rw [piecesGo, if_neg (h b (List.mem_cons_self ..)), go_end a (acc ++ [b]) (fun x hx => h x (List.mem_cons_of_mem _ hx))]
    simp
theorem ba_ext {a b : ByteArray} (h : a.data.toList = b.data.toList) : a = b := by
  obtain ⟨⟨x⟩⟩ := a
  obtain ⟨⟨y⟩⟩ := b
  obtain rfl : x = y := h
  rfl
theorem ba_nil {t : ByteArray} : t.data.toList = [] ↔ t.size = 0 := by
  rw [← List.length_eq_zero_iff, Array.length_toList]
  rfl
theorem extract_list (t : ByteArray) (i j : Nat) : (t.extract i j).data.toList = (t.data.toList.take j).drop i := by
  rw [ByteArray.data_extract, Array.toList_extract]
  simp [List.drop_take]
/-- The pieces of a text: the first, and those behind the first /. -/
theorem pieces_step (t : ByteArray) : pieces t = (if (headP t).size = 0 then [] else [headP t]) ++ pieces (tailP t) := by
  by_cases h : 0 ≤ Lib.indexByte t.data.toList 47
  · obtain ⟨k, hk⟩ : ∃ k : Nat, Lib.indexByte t.data.toList 47 = k := ⟨_, (Int.toNat_of_nonneg h).symm⟩
    obtain ⟨h1, h2⟩ := Lib.indexByte_some hk
    obtain ⟨hkl, hkv⟩ := List.getElem?_eq_some_iff.1 h1
    have eh : headP t = t.extract 0 k := by unfold headP; rw [if_pos h, hk]; rfl
    have et : tailP t = t.extract (k + 1) t.size := by unfold tailP; rw [if_pos h, hk]; rfl
    have lh : (headP t).data.toList = t.data.toList.take k := by rw [eh, extract_list]; rfl
    have lt' : (tailP t).data.toList = t.data.toList.drop (k + 1) := by
      rw [et, extract_list, List.take_of_length_le (by rw [Array.length_toList]; exact Nat.le_refl _)]
    have hs : t.data.toList = t.data.toList.take k ++ 47 :: t.data.toList.drop (k + 1) := by
      rw [← hkv, List.getElem_cons_drop, List.take_append_drop]
    have hno : ∀ x ∈ t.data.toList.take k, x ≠ 47 := fun x hx e => by
      obtain ⟨j, hj⟩ := List.mem_iff_getElem?.1 hx
      have hjk : j < k := by have := (List.getElem?_eq_some_iff.1 hj).1; rw [List.length_take] at this; omega
      rw [List.getElem?_take_of_lt hjk, e] at hj
      exact h2 j hjk hj
    unfold pieces
    rw [hs, go_slash _ _ _ hno, List.map_append, ← lt', List.nil_append, ← lh]
    congr 1
    by_cases h0 : (headP t).size = 0
    · rw [if_pos h0, if_pos (ba_nil.2 h0)]; rfl
    · rw [if_neg h0, if_neg (fun e => h0 (ba_nil.1 e))]
      simp
  · have hn := Lib.indexByte_none (l := t.data.toList) (c := 47) (by have := idx_neg' t.data.toList 47; omega)
    have eh : headP t = t := by unfold headP; rw [if_neg h]
    have et : tailP t = ⟨#[]⟩ := by unfold tailP; rw [if_neg h]
    have hno : ∀ x ∈ t.data.toList, x ≠ 47 := fun x hx e => by
      obtain ⟨j, hj⟩ := List.mem_iff_getElem?.1 hx
      exact hn j (by rw [hj, e])
    rw [eh, et]
    unfold pieces
    rw [go_end _ _ hno, List.nil_append]
    by_cases h0 : t.size = 0
    · rw [if_pos h0, if_pos (ba_nil.2 h0)]; rfl
    · rw [if_neg h0, if_neg (fun e => h0 (ba_nil.1 e))]
      simp [piecesGo]
theorem pieces_nil {t : ByteArray} (h : t.size = 0) : pieces t = [] := by
  unfold pieces
  rw [ba_nil.2 h]
  rfl
theorem tail_lt {t : ByteArray} (h : t.size ≠ 0) : (tailP t).size < t.size := by
  unfold tailP
  split
  · rename_i h0
    have := idx_lt h0
    rw [Array.length_toList] at this
    rw [ByteArray.size_extract]
    show min _ _ - _ < _
    omega
  · show 0 < _; omega
end Go.Proofs.Ytohgecmbkjienaa
