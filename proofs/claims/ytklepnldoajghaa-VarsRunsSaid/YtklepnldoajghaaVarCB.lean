/- The reference's at and Get. Condition: the rows lie as stated. -/
import Derived.Test.YtklepnldoajghaaVarCA
namespace Go.Proofs.Ytklepnldoajghaa
open Go.RowKit Go.PlainAid
attribute [local go_sem] Oper.semAt_some

theorem at_has {L : Vl} {x : ByteArray} (hs : Sorted (ks L)) (h : has (ks L) x = true) : L[pos (ks L) x]? = some (x, got L x) := by
  obtain ⟨y, hy⟩ := of_ks ((has_iff hs).1 h)
  obtain ⟨t, ht⟩ := List.mem_iff_getElem?.1 hy
  rw [← idx_pos hs (ks_at ht), got_of hs hy]
  exact ht
theorem fnd_has {L : Vl} {x : ByteArray} (h : has (ks L) x = true) : fnd L x = (pos (ks L) x : Nat) := by unfold fnd; rw [if_pos h]
theorem fnd_not {L : Vl} {x : ByteArray} (h : has (ks L) x = false) : fnd L x = -1 := by unfold fnd; rw [h]; rfl
theorem blk5 {W : World} {m : Nat} {a b c d e : Value} {t : TypeId} (h : Blk W m t #[a, b, c, d, e]) : (W.cell? ⟨m, 0, none⟩ = some a ∧ W.cell? ⟨m, 1, none⟩ = some b ∧ W.cell? ⟨m, 2, none⟩ = some c ∧ W.cell? ⟨m, 3, none⟩ = some d ∧ W.cell? ⟨m, 4, none⟩ = some e) ∧
    (W.frozen? ⟨m, 0, none⟩ = false ∧ W.frozen? ⟨m, 1, none⟩ = false ∧ W.frozen? ⟨m, 2, none⟩ = false ∧ W.frozen? ⟨m, 3, none⟩ = false ∧ W.frozen? ⟨m, 4, none⟩ = false) :=
  ⟨⟨h.cell 0, h.cell 1, h.cell 2, h.cell 3, h.cell 4⟩, h.frozen 0, h.frozen 1, h.frozen 2, h.frozen 3, h.frozen 4⟩

set_option maxHeartbeats 2000000 in
theorem at_any {n₀ q : Nat} {L : Vl} {A : List ByteArray} {lv av : Value} (x : ByteArray) (w : World) (h : RefAt n₀ w q L A lv av) :
    Calls Try.prog 33 #[.pointer (some ⟨q, 0, none⟩), .string x] w fun e w' => e = .returned (.agg (rcs (x, got L x)).toArray) ∧ Below w.heap.size w w' := by
  obtain ⟨W, hW⟩ : ∃ W, w.alloc (.cells #[.string ⟨#[]⟩, .string ⟨#[]⟩, .bool false, .bool false, .bool false] 73) = W := ⟨_, rfl⟩
  obtain ⟨m, hm⟩ : ∃ m, w.heap.size = m := ⟨_, rfl⟩
  have hBel : Below m w W := by rw [← hW]; exact (Below.refl _ _).alloc (by omega) _
  have hHW := h.beneath (by rw [hm]; exact hBel)
  have hBm : Blk W m 73 #[.string ⟨#[]⟩, .string ⟨#[]⟩, .bool false, .bool false, .bool false] := by rw [← hW, ← hm]; exact Blk.new w 73 _
  obtain ⟨a0, c0, e0⟩ := ownsRow_slice hHW.list
  have p0 : W.cell? ⟨q, 0, none⟩ = some (.slice a0 L.length c0) := by rw [hHW.blk.cell 0, ← e0]; rfl
  obtain ⟨⟨m0, m1, m2, m3, m4⟩, f0, f1, f2, f3, f4⟩ := blk5 hBm
  have hcall := Lib.hid (find_any x W hHW)
  have hHWH := Lib.hid hHW
  have hBelH := Lib.hid hBel
  have hBmH := Lib.hid hBm
  have hWH := Lib.hid hW
  have hmH := Lib.hid hm
  have hl64 := h.len
  have fin : ∀ (a b c d e : Value), Below m w (((((W.setCell ⟨m, 0, none⟩ a).setCell ⟨m, 1, none⟩ b).setCell ⟨m, 2, none⟩ c).setCell ⟨m, 3, none⟩ d).setCell ⟨m, 4, none⟩ e) ∧ Blk (((((W.setCell ⟨m, 0, none⟩ a).setCell ⟨m, 1, none⟩ b).setCell ⟨m, 2, none⟩ c).setCell ⟨m, 3, none⟩ d).setCell ⟨m, 4, none⟩ e) m 73 #[a, b, c, d, e] := fun a b c d e =>
    ⟨((((hBel.setCell (Nat.le_refl m) _).setCell (Nat.le_refl m) _).setCell (Nat.le_refl m) _).setCell (Nat.le_refl m) _).setCell (Nat.le_refl m) _, ((((hBm.set_ 0 _).set_ 1 _).set_ 2 _).set_ 3 _).set_ 4 _⟩
  have finH := Lib.hid fin
  rw [hm]
  cases hh : has (ks L) x with
  | true =>
    have hf := Lib.hid (fnd_has hh)
    obtain ⟨i, hi⟩ : ∃ i, pos (ks L) x = i := ⟨_, rfl⟩
    rw [hi] at hf
    have hat := at_has h.srt hh
    rw [hi] at hat
    obtain ⟨hil, _⟩ := List.getElem?_eq_some_iff.1 hat
    obtain ⟨g, cap, e1, _, hc, _, _⟩ := row_at rcs_len hHW.list hat
    obtain rfl : a0 = some ⟨g, 0, none⟩ := by rw [e0] at e1; simp at e1; exact e1.1
    obtain ⟨y, hy⟩ : ∃ y, got L x = y := ⟨_, rfl⟩
    rw [hy] at hc ⊢
    have d0 : W.cell? ⟨g, i * 5, none⟩ = some (.string x) := hc 0 _ rfl
    have d1 : W.cell? ⟨g, i * 5 + 1, none⟩ = some (.string y.val) := hc 1 _ rfl
    have d2 : W.cell? ⟨g, i * 5 + 2, none⟩ = some (.bool y.ex) := hc 2 _ rfl
    have d3 : W.cell? ⟨g, i * 5 + 3, none⟩ = some (.bool y.ro) := hc 3 _ rfl
    have d4 : W.cell? ⟨g, i * 5 + 4, none⟩ = some (.bool (!y.st)) := hc 4 _ rfl
    have hii : (i : Int) < (L.length : Int) := by omega
    have hi0 : (0 : Int) ≤ (i : Int) := by omega
    unfold rcs
    clear h hBel hHW hBm hW hm hh hat hc e1 e0 fin hy hi
    go_enter Try.func33, Try.ntmps33
    go_wp2_with (rw [hWH.out, hmH.out])
    refine hcall.out.mono ?_
    rintro e w' ⟨rfl, rfl⟩
    rw [hf.out]
    go_wp2_with fail
    obtain ⟨hB5, hK5⟩ := finH.out (.string x) (.string y.val) (.bool y.ex) (.bool y.ro) (.bool (!y.st))
    obtain ⟨⟨k0, k1, k2, k3, k4⟩, _⟩ := blk5 hK5
    refine bodyPost_ret (v := .agg #[.string x, .string y.val, .bool y.ex, .bool y.ro, .bool (!y.st)]) (by simp [results, Try.f33, go_sem, k0, k1, k2, k3, k4]) rfl ⟨rfl, ?_⟩
    exact hB5
  | false =>
    have hf := Lib.hid (fnd_not hh)
    have hg := got_no hh
    rw [hg]
    show Calls Try.prog 33 _ _ fun e w' => e = .returned (.agg #[.string x, .string ⟨#[]⟩, .bool false, .bool false, .bool true]) ∧ Below m w w'
    clear h hBel hHW hBm hW hm hh e0 fin hg
    go_enter Try.func33, Try.ntmps33
    go_wp2_with (rw [hWH.out, hmH.out])
    refine hcall.out.mono ?_
    rintro e w' ⟨rfl, rfl⟩
    rw [hf.out]
    go_wp2_with fail
    obtain ⟨hB5, hK5⟩ := finH.out (.string x) (.string ⟨#[]⟩) (.bool false) (.bool false) (.bool true)
    obtain ⟨⟨k0, k1, k2, k3, k4⟩, _⟩ := blk5 hK5
    refine bodyPost_ret (v := .agg #[.string x, .string ⟨#[]⟩, .bool false, .bool false, .bool true]) (by simp [results, Try.f33, go_sem, k0, k1, k2, k3, k4]) rfl ⟨rfl, ?_⟩
    exact hB5
end Go.Proofs.Ytklepnldoajghaa
