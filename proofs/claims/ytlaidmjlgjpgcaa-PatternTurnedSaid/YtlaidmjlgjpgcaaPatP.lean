/- Plain. Condition: lengths. -/
import Derived.Test.YtlaidmjlgjpgcaaPatO
namespace Go.Proofs.Ytlaidmjlgjpgcaa
open Go.RowKit
attribute [local go_sem] Oper.semAt_some
theorem take_set2 (xs : List Value) (k : Nat) (h : k + 1 < xs.length) (a b : Value) : ((xs.set k a).set (k + 1) b).take (k + 2) = xs.take k ++ [a, b] := by
  apply List.ext_getElem?
  intro i
  rw [List.getElem?_take, List.getElem?_append, List.length_take, Nat.min_eq_left (by omega), List.getElem?_take, List.getElem?_set, List.getElem?_set]
  rcases Nat.lt_trichotomy i k with hi | hi | hi
  · simp only [if_pos hi, if_pos (show i < k + 2 by omega), if_neg (show ¬ k + 1 = i by omega), if_neg (show ¬ k = i by omega)]
  · subst hi; simp [show i < xs.length by omega]
  · by_cases h1 : i = k + 1
    · subst h1; simp [h]; intro hh; exact absurd hh (by omega)
    · simp only [if_neg (show ¬ i < k by omega), if_neg (show ¬ i < k + 2 by omega)]
      rw [List.getElem?_eq_none (by simp; omega)]
set_option maxHeartbeats 1000000 in
theorem plain_any (s : ByteArray) (w : World) (hs : s.size ≤ 1000000) : Calls Try.prog 22 #[.string s] w (OfR (s.data.toList.map fun c => (c, true)) w) := by
  obtain ⟨n₀, hn₀⟩ : ∃ n₀, w.heap.size = n₀ := ⟨_, rfl⟩
  have hn₀H := Lib.hid hn₀
  obtain ⟨cur, hcur, hmk⟩ := make_chs s.size s.size (Nat.le_refl _) hs w
  obtain ⟨W1, hW1⟩ : ∃ W1, w.alloc (.cells cur 33) = W1 := ⟨_, rfl⟩
  rw [hW1, hn₀] at hmk
  have hB1 : Hid (Below n₀ w W1) := Lib.hid (by rw [← hW1, ← hn₀]; exact (Below.refl _ _).alloc (Nat.le_refl _) _)
  have hown : Hid (W1.ownsRow n₀ 33 2 (.slice (some ⟨n₀, 0, none⟩) s.size s.size) s.size cur.toList) := Lib.hid (by
    rw [← hW1, ← hn₀]
    exact World.ownsRow_lit w cur s.size (Nat.le_refl _) (by unfold maxLen; omega) hcur)
  clear hW1 hcur hn₀
  go_enter Try.func22, Try.ntmps22
  go_wp2_with fail
  clear hmk
  go_loopw [4, 10] (fun _ s10 wr => ∃ (i : Nat) (xs : List Value), i ≤ s.size ∧ s10 = .int .i64 i ∧ Hid (xs.take (2 * i) = chv ((s.data.toList.take i).map fun c => (c, true)) ∧ wr.ownsRow n₀ 33 2 (.slice (some ⟨n₀, 0, none⟩) s.size s.size) s.size xs ∧ Below n₀ w wr)) (fun _ s10 _ => s.size - (intOf s10).toNat)
  case atStart => exact ⟨0, _, Nat.zero_le _, rfl, Lib.hid ⟨by simp [chv], hown.out, hB1.out⟩⟩
  case round =>
    obtain ⟨i, xs, hi, rfl, hRel⟩ := hrel
    by_cases hlt : i < s.size
    · have hlt' : (i : Int) < (s.size : Int) := by omega
      obtain ⟨c, hc⟩ : ∃ c, s[i] = c := ⟨_, rfl⟩
      have hcH : Hid (s.data.toList[i]? = some c) := Lib.hid (by rw [← hc]; exact List.getElem?_eq_getElem hlt)
      have hi0 : (0 : Int) ≤ (i : Int) := by omega
      have hown0 := hRel.out.2.1
      have hlen := hown0.1
      obtain ⟨y0, k0⟩ : ∃ y, wr.cell? ⟨n₀, i * 2, none⟩ = some y := ⟨_, (hown0.cellAt (i * 2) (by omega)).trans (List.getElem?_eq_getElem (by rw [hlen]; omega))⟩
      obtain ⟨y1, k1⟩ : ∃ y, wr.cell? ⟨n₀, i * 2 + 1, none⟩ = some y := ⟨_, (hown0.cellAt (i * 2 + 1) (by omega)).trans (List.getElem?_eq_getElem (by rw [hlen]; omega))⟩
      have f0 := hown0.frozenAt (i * 2)
      have f1 := hown0.frozenAt (i * 2 + 1)
      obtain ⟨o1, -⟩ := hown0.stored (i * 2) (.int .u8 (c.toNat : Int))
      obtain ⟨o2, -⟩ := o1.stored (i * 2 + 1) (.bool true)
      have o2H := Lib.hid o2
      have hlenH := Lib.hid hlen
      clear hown0 o1 o2 hlen
      go_wp2_with fail
      go_roundw
      case rel =>
        refine ⟨i + 1, _, by omega, by go_num, Lib.hid ⟨?_, o2H.out, (hRel.out.2.2.setCell (Nat.le_refl _) _).setCell (Nat.le_refl _) _⟩⟩
        rw [show 2 * (i + 1) = i * 2 + 2 by omega, take_set2 _ _ (by rw [hlenH.out]; omega), show i * 2 = 2 * i by omega, hRel.out.1, List.take_add_one, hcH.out]
        simp [chv]
      case measure => simp [intOf]; omega
    · have hlt' : ¬ (i : Int) < (s.size : Int) := by omega
      have hin := Lib.hid (show i = s.size by omega)
      go_wp2_with fail
      go_ret
      refine ⟨by rw [hn₀H.out]; exact hRel.out.2.2, _, rfl, ?_⟩
      have hx := hRel.out.1
      have hl := hRel.out.2.1.1
      rw [hin.out, show xs.take (2 * s.size) = xs from List.take_of_length_le (by omega), show s.data.toList.take s.size = s.data.toList from List.take_of_length_le (Nat.le_refl _)] at hx
      rw [hn₀H.out, ← hx, List.length_map]
      exact hRel.out.2.1
end Go.Proofs.Ytlaidmjlgjpgcaa
