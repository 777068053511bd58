/- A tree of one file, as plain data. No condition. -/
import Derived.Test.YtohgecmbkjienaaFlAF
namespace Go.Proofs.Ytohgecmbkjienaa
open Go.RowKit Go.Shelf Go.PlainAid
def aT : ByteArray := ⟨#[97]⟩
def btI (l : List UInt8) : Ino := ⟨1, 0, 1, 0, l, [], 0⟩
def bt (l : List UInt8) : Fs := [some ⟨2, 493, 1, 0, [], [(aT, 2)], 1⟩, some (btI l)]
theorem bt_new : CreateM newM 1 aT 0 = (2, 0, bt []) := by kernel_rfl
theorem bt_good {l : List UInt8} (hl : l.length ≤ 70000) : FineF (bt l) ∧ Closed (bt l) ∧ (bt l).length ≤ 9000 := by
  refine good_of ?_
  simp [goodB, bt, btI, fineB, node, nms, hl]
theorem bt_node (l : List UInt8) : node (bt l) 2 = some (btI l) := rfl
theorem bt_bytes (l : List UInt8) : bytesM (bt l) = l.length := by
  show ([] : List UInt8).length + (l.length + 0) = l.length
  simp
theorem bt_mod (l l' : List UInt8) (g : Ino → Ino) (hg : g (btI l) = btI l') : modN (bt l) 2 g = bt l' := by
  show (bt l).set 1 (some (g (btI l))) = bt l'
  rw [hg]
  rfl
def wrL (l : List UInt8) (a : Nat) (s : ByteArray) : List UInt8 := if s.size = 0 then l else putL (resM l (max l.length (a + s.size))) a s.data.toList
theorem bt_write (l : List UInt8) (a : Nat) (s : ByteArray) (ha : a ≤ 3000) (hs : s.size ≤ 2000) (hl : l.length ≤ 10000) : WriteM (bt l) 2 a s = (s.size, 0, bt (wrL l a s)) := by
  unfold WriteM
  rw [bt_node]
  dsimp only
  rw [if_neg (show ¬ ((btI l).isDir = true) by show ¬ ((1 : Nat) == 2) = true; decide), if_neg (by omega)]
  have hsz : sizM (btI l) a s ≤ 10000 := by
    unfold sizM
    show (if s.size = 0 then l.length else max l.length (min a 65536 + s.size)) ≤ 10000
    split <;> omega
  have hroom : roomM (bt l) (btI l) (sizM (btI l) a s) = true := by
    unfold roomM
    rw [bt_bytes]
    show decide (l.length + sizM (btI l) a s ≤ 65536 + l.length) = true
    exact decide_eq_true (by omega)
  rw [Int.toNat_natCast, if_neg (fun h => h.elim (by omega) (by rw [hroom]; simp))]
  unfold wrL
  split
  · rename_i h0
    rw [h0]
  · rename_i h0
    rw [bt_mod l (putL (resM l (max l.length (a + s.size))) a s.data.toList)]
    have e : sizM (btI l) a s = max l.length (a + s.size) := by
      unfold sizM
      rw [if_neg h0]
      show max l.length (min a 65536 + s.size) = _
      omega
    show ({ btI l with data := putL (resM l (sizM (btI l) a s)) a s.data.toList } : Ino) = btI _
    rw [e]
    rfl
theorem bt_read (l : List UInt8) (hl : l.length ≤ 9000) : ReadM (bt l) 2 0 9000 = (⟨l.toArray⟩, 0) := by
  unfold ReadM
  rw [bt_node]
  dsimp only
  rw [if_neg (show ¬ ((btI l).isDir = true) by show ¬ ((1 : Nat) == 2) = true; decide)]
  rw [if_neg (by omega)]
  show ((⟨(readL l 0 9000).toArray⟩ : ByteArray), 0) = _
  unfold readL
  rw [show (0 : Int).toNat = 0 from rfl, List.drop_zero, List.take_of_length_le (by show l.length ≤ 9000; exact hl)]
theorem bt_trunc (l : List UInt8) (a : Nat) (ha : a ≤ 3000) (hl : a ≤ l.length) : TruncM (bt l) 2 a = (0, bt (l.take a)) := by
  unfold TruncM
  rw [bt_node]
  dsimp only
  have hroom : roomM (bt l) (btI l) a = true := by
    unfold roomM
    rw [bt_bytes]
    show decide (l.length + a ≤ 65536 + l.length) = true
    exact decide_eq_true (by omega)
  rw [if_neg (show ¬ ((btI l).isDir = true) by show ¬ ((1 : Nat) == 2) = true; decide), if_neg (by omega), Int.toNat_natCast, if_neg (fun h => h.elim (by omega) (by rw [hroom]; simp)), bt_mod l (l.take a)]
  show ({ btI l with data := resM l a } : Ino) = btI _
  unfold resM
  rw [if_pos hl]
  rfl
theorem wrL_first (s : ByteArray) : wrL [] 0 s = s.data.toList := by
  have hsz := Lib.size_eq s
  unfold wrL
  split
  · exact (List.length_eq_zero_iff.1 (by omega)).symm
  · unfold putL resM
    rw [if_neg (show ¬ (max ([] : List UInt8).length (0 + s.size) ≤ ([] : List UInt8).length) by show ¬ (max 0 (0 + s.size) ≤ 0); omega)]
    simp
theorem wrL_len (l : List UInt8) (a : Nat) (s : ByteArray) (h0 : s.size ≠ 0) : (wrL l a s).length = max l.length (a + s.size) := by
  have hsz := Lib.size_eq s
  unfold wrL
  rw [if_neg h0]
  unfold putL
  simp [resM_len]
  omega
theorem wrL_in (l : List UInt8) (a : Nat) (s : ByteArray) (h0 : s.size ≠ 0) {i : Nat} (h1 : a ≤ i) (h2 : i < a + s.size) : (wrL l a s)[i]? = s.data.toList[i - a]? := by
  have hsz := Lib.size_eq s
  unfold wrL
  rw [if_neg h0]
  unfold putL
  rw [List.append_assoc, List.getElem?_append_right (by simp [resM_len]; omega), List.getElem?_append_left (by simp [resM_len]; omega)]
  simp [resM_len]
  congr 1
  omega
theorem resM_at (l : List UInt8) (n i : Nat) (hn : l.length ≤ n) (hi : i < n) : (resM l n)[i]? = some (if h : i < l.length then l[i] else 0) := by
  unfold resM
  split
  · have : n = l.length := by omega
    subst this
    rw [List.take_length, dif_pos hi, List.getElem?_eq_getElem hi]
  · split
    · rename_i h
      rw [List.getElem?_append_left h, List.getElem?_eq_getElem h]
    · rename_i h
      rw [List.getElem?_append_right (by omega), List.getElem?_replicate_of_lt (by omega)]
theorem wrL_out (l : List UInt8) (a : Nat) (s : ByteArray) (h0 : s.size ≠ 0) {i : Nat} (h1 : i < a ∨ a + s.size ≤ i) (h2 : i < max l.length (a + s.size)) : (wrL l a s)[i]? = some (if h : i < l.length then l[i] else 0) := by
  have hsz := Lib.size_eq s
  unfold wrL
  rw [if_neg h0]
  unfold putL
  rw [← resM_at l (max l.length (a + s.size)) i (by omega) h2]
  by_cases h3 : i < a
  · rw [List.append_assoc, List.getElem?_append_left (by simp [resM_len]; omega), List.getElem?_take_of_lt h3]
  · rw [List.getElem?_append_right (by simp [resM_len]; omega), List.getElem?_drop]
    congr 1
    simp [resM_len]
    omega
end Go.Proofs.Ytohgecmbkjienaa
