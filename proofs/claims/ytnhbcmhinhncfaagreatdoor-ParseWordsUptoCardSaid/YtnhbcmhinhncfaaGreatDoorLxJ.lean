/- A line is cut off a text; the tabs ahead are let go. No condition. -/
import Derived.Test.YtnhbcmhinhncfaaGreatDoorLxI
import Derived.Test.YtnhbcmhinhncfaaGreatDoorLxG
namespace Go.Proofs.YtnhbcmhinhncfaaGreatDoor
open Go.RowKit Go.PlainAid
attribute [local go_sem] Oper.semAt_some

set_option maxHeartbeats 1000000 in
theorem cutl_some (t : ByteArray) (k : Nat) (hs : t.size ≤ maxLen) (hk : k < t.size) (h : Lib.indexByte t.data.toList 10 = k) (w : World) : Calls Tryz.prog 84 #[.string t, .string ⟨#[10]⟩] w fun e w' => e = .returned (.tuple #[.string (t.extract 0 k), .string (t.extract (k + 1) t.size), .bool true]) ∧ ∃ m, w' = w.drewN m := by
  unfold maxLen at hs
  go_enter Tryz.func84, Tryz.ntmps84
  go_wp2_with (go_at_call 51; refine (Tryz.stringslite_Index_one t 10 _).mono ?_; rintro e w' ⟨rfl, rfl⟩; rw [h])
  go_quiet (fail)
  go_wp2
  go_ret3
  exact ⟨rfl, _, rfl⟩
set_option maxHeartbeats 1000000 in
theorem cutl_none (t : ByteArray) (h : Lib.indexByte t.data.toList 10 = -1) (w : World) : Calls Tryz.prog 84 #[.string t, .string ⟨#[10]⟩] w fun e w' => e = .returned (.tuple #[.string t, .string ⟨#[]⟩, .bool false]) ∧ ∃ m, w' = w.drewN m := by
  go_enter Tryz.func84, Tryz.ntmps84
  go_wp2_with (go_at_call 51; refine (Tryz.stringslite_Index_one t 10 _).mono ?_; rintro e w' ⟨rfl, rfl⟩; rw [h])
  go_ret3
  exact ⟨rfl, 0, rfl⟩
set_option maxHeartbeats 1000000 in
theorem scutl_some (t : ByteArray) (k : Nat) (hs : t.size ≤ maxLen) (hk : k < t.size) (h : Lib.indexByte t.data.toList 10 = k) (w : World) : Calls Tryz.prog 73 #[.string t, .string ⟨#[10]⟩] w fun e w' => e = .returned (.tuple #[.string (t.extract 0 k), .string (t.extract (k + 1) t.size), .bool true]) ∧ ∃ m, w' = w.drewN m := by
  go_enter Tryz.func73, Tryz.ntmps73
  go_wp2_with (go_at_call 84; refine (cutl_some t k hs hk h _).mono ?_; rintro e w' ⟨rfl, m, rfl⟩)
  go_ret3
  exact ⟨rfl, _, rfl⟩
set_option maxHeartbeats 1000000 in
theorem scutl_none (t : ByteArray) (h : Lib.indexByte t.data.toList 10 = -1) (w : World) : Calls Tryz.prog 73 #[.string t, .string ⟨#[10]⟩] w fun e w' => e = .returned (.tuple #[.string t, .string ⟨#[]⟩, .bool false]) ∧ ∃ m, w' = w.drewN m := by
  go_enter Tryz.func73, Tryz.ntmps73
  go_wp2_with (go_at_call 84; refine (cutl_none t h _).mono ?_; rintro e w' ⟨rfl, m, rfl⟩)
  go_ret3
  exact ⟨rfl, _, rfl⟩

/-- The line that begins at a place: its bytes, whether a byte 10 ends it, the place behind it. -/
def lineB (s : ByteArray) (i : Nat) : ByteArray := s.extract i (remN s i)
def isWhole (s : ByteArray) (i : Nat) : Bool := decide (0 ≤ lnM s i)
def restB (s : ByteArray) (i : Nat) : ByteArray := if 0 ≤ lnM s i then (s.extract i s.size).extract ((lnM s i).toNat + 1) (s.extract i s.size).size else ⟨#[]⟩
theorem rem_le {s : ByteArray} {i : Nat} (hi : i ≤ s.size) : i ≤ remN s i ∧ remN s i ≤ s.size := by
  unfold remN
  split
  · rename_i h; have := lnM_lt h; omega
  · omega
theorem lineB_size {s : ByteArray} {i : Nat} (hi : i ≤ s.size) : (lineB s i).size = remN s i - i := by
  have := rem_le hi
  unfold lineB; rw [ByteArray.size_extract]; omega
theorem cut_line (s : ByteArray) (i : Nat) (hs : s.size ≤ 100000) (hi : i ≤ s.size) (w : World) : Calls Tryz.prog 73 #[.string (s.extract i s.size), .string ⟨#[10]⟩] w fun e w' => e = .returned (.tuple #[.string (lineB s i), .string (restB s i), .bool (isWhole s i)]) ∧ ∃ m, w' = w.drewN m := by
  have hz : (s.extract i s.size).size = s.size - i := by rw [ByteArray.size_extract]; omega
  by_cases h : 0 ≤ lnM s i
  · have hlt := lnM_lt h
    have hb : restB s i = (s.extract i s.size).extract ((lnM s i).toNat + 1) (s.extract i s.size).size := by unfold restB; rw [if_pos h]
    have hl : lineB s i = (s.extract i s.size).extract 0 (lnM s i).toNat := by
      unfold lineB remN; rw [if_pos h, ByteArray.extract_extract]
      congr 1 <;> omega
    have hw : isWhole s i = true := decide_eq_true h
    rw [hb, hl, hw]
    exact scutl_some _ (lnM s i).toNat (by unfold maxLen; omega) (by omega) (by show lnM s i = _; omega) w
  · have hn := idx_neg h
    have hb : restB s i = ⟨#[]⟩ := by unfold restB; rw [if_neg h]
    have hl : lineB s i = s.extract i s.size := by unfold lineB remN; rw [if_neg h]
    have hw : isWhole s i = false := decide_eq_false h
    rw [hb, hl, hw]
    exact scutl_none _ hn w
/-- A here-document's line, with or without its tabs. -/
def tabB (b : ByteArray) : ByteArray := ⟨(Lib.trimLeftB b.data.toList 9).toArray⟩
def dLine (s : ByteArray) (i : Nat) (tabs : Bool) : ByteArray := if tabs then tabB (lineB s i) else lineB s i
def nextN (s : ByteArray) (i : Nat) : Nat := if isWhole s i then remN s i + 1 else remN s i
theorem trim_le (l : List UInt8) (c : UInt8) : (Lib.trimLeftB l c).length ≤ l.length := by
  unfold Lib.trimLeftB; exact (List.dropWhile_sublist _).length_le
theorem dLine_size {s : ByteArray} {i : Nat} {tabs : Bool} (hi : i ≤ s.size) : (dLine s i tabs).size ≤ remN s i - i := by
  rw [← lineB_size hi]
  unfold dLine
  split
  · unfold tabB
    show (Lib.trimLeftB (lineB s i).data.toList 9).toArray.size ≤ (lineB s i).data.size
    rw [List.size_toArray, ← Array.length_toList]
    exact trim_le _ _
  · exact Nat.le_refl _
theorem next_gt {s : ByteArray} {i : Nat} (hi : i < s.size) : i < nextN s i ∧ nextN s i ≤ s.size ∧ remN s i ≤ nextN s i := by
  unfold nextN isWhole remN
  by_cases h : 0 ≤ lnM s i
  · have := lnM_lt h
    simp [h]; omega
  · simp [h]; omega
/-- A here-document, from a place on: its body, or nothing, and the place behind it. -/
def docM (s e : ByteArray) (tabs : Bool) : Nat → Nat → List UInt8 → Option (List UInt8) × Nat
  | 0, i, _ => (none, i)
  | f + 1, i, acc => if i < s.size then (if (dLine s i tabs).toList == e.toList then (some acc, nextN s i) else docM s e tabs f (nextN s i) (acc ++ (dLine s i tabs).data.toList ++ [10])) else (none, i)
def docV : Option (List UInt8) → Value
  | some l => .tuple #[.string ⟨l.toArray⟩, .bool true]
  | none => .tuple #[.string ⟨#[]⟩, .bool false]
section
variable {s e : ByteArray} {tabs : Bool} {f i : Nat} {acc : List UInt8}
theorem doc_end (h : ¬ i < s.size) : docM s e tabs f i acc = (none, i) := by
  cases f with
  | zero => rfl
  | succ f => rw [docM, if_neg h]
theorem doc_done (h : i < s.size) (h1 : ((dLine s i tabs).toList == e.toList) = true) : docM s e tabs (f + 1) i acc = (some acc, nextN s i) := by
  rw [docM, if_pos h, h1, if_pos rfl]
theorem doc_on (h : i < s.size) (h1 : ((dLine s i tabs).toList == e.toList) = false) : docM s e tabs (f + 1) i acc = docM s e tabs f (nextN s i) (acc ++ (dLine s i tabs).data.toList ++ [10]) := by
  rw [docM, if_pos h, h1, if_neg (by decide)]
end
end Go.Proofs.YtnhbcmhinhncfaaGreatDoor
