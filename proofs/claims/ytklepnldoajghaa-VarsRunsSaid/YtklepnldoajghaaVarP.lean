/- Shift by a number that there is. Condition: the variables lie as stated. -/
import Derived.Test.YtklepnldoajghaaVarO
namespace Go.Proofs.Ytklepnldoajghaa
open Go.RowKit Go.PlainAid
attribute [local go_sem] Oper.semAt_some

theorem flat_drop_k (A : List ByteArray) (k : Nat) (hk : k ≤ A.length) : (flat kcs A).drop k = flat kcs (A.drop k) := by
  have := flat_drop kcs_len A k hk
  rwa [Nat.mul_one] at this

set_option maxHeartbeats 1000000 in
theorem shift_yes {n₀ p : Nat} {L : Vl} {A : List ByteArray} {kv vv av : Value} (k : Nat) (w : World) (h : VarsAt n₀ w p L A kv vv av) (hn0 : n₀ ≤ w.heap.size) (hk : k ≤ A.length) :
    Calls Try.prog 18 #[.pointer (some ⟨p, 0, none⟩), .int .i64 k] w fun e w' => e = .returned (.int .i64 0) ∧ EndsA n₀ p L (A.drop k) kv vv w w' := by
  have hal := h.alen
  have hAl : (A.drop k).length ≤ 200 := by rw [List.length_drop]; omega
  have hH := Lib.hid h
  have hn0H := Lib.hid hn0
  have hB := h.blk
  have h2 : w.cell? ⟨p, 2, none⟩ = some av := h.blk.cell 2
  have hk1 : ¬ (k : Int) < 0 := by omega
  have hk2 : ¬ (A.length : Int) < (k : Int) := by omega
  rcases h.args.2 with ⟨rfl, h0⟩ | ⟨g, cap, cur, rfl, _, _, hc, hm, _⟩
  · obtain rfl : A = [] := List.eq_nil_of_length_eq_zero h0
    obtain rfl : k = 0 := by simpa using hk
    have hcall := Lib.hid (clone_t (K := []) w (.inl ⟨rfl, rfl⟩) (by simp))
    clear h hn0 hB
    go_enter Try.func18, Try.ntmps18
    go_wp2_with (go_at_call 38; refine hcall.out.mono ?_; rintro e w1 ⟨v', rfl, hr', hb'⟩; obtain ⟨a1, c1, rfl⟩ := ownsRow_slice hr'; have q0 : w1.cell? ⟨p, 2, none⟩ = some (.slice none 0 0) := (blk_beneath hH.out.blk hb').cell 2; have q1 : w1.frozen? ⟨p, 2, none⟩ = false := (blk_beneath hH.out.blk hb').frozen 2; have hrH := Lib.hid hr'; have hbH := Lib.hid hb'; clear hr' hb')
    go_ret
    exact ⟨rfl, .store hH.out hn0H.out hAl hrH.out hbH.out⟩
  · have hd : Hid ((flat kcs A).drop k = flat kcs (A.drop k)) := Lib.hid (flat_drop_k A k hk)
    have hcells := row_cells h.args
    have hlen : (A.drop k).length = A.length - k := List.length_drop
    unfold maxLen at hm
    have hend : ∀ (w1 : World) (v' : Value), w1.ownsRow w.heap.size 9 1 v' (A.length - k) (flat kcs (A.drop k)) → Below w.heap.size w w1 → EndsA n₀ p L (A.drop k) kv vv w (w1.setCell ⟨p, 2, none⟩ v') := fun w1 v' hr hb =>
      .store hH.out hn0H.out hAl (by rw [hlen]; exact hr) hb
    have hendH := Lib.hid hend
    by_cases hck : cap = k
    · have hcall := Lib.hid (clone_at (K := A.drop k) g 0 (A.length - k) 0 w hlen (fun j u hj => by
        rw [List.drop_eq_nil_of_le (by omega)] at hj
        exact absurd hj (by simp [flat])) (by omega))
      clear h hn0 hB hcells hlen hend
      go_enter Try.func18, Try.ntmps18
      go_wp2_with (go_at_call 38; refine hcall.out.mono ?_; rintro e w1 ⟨v', rfl, hr', hb'⟩; obtain ⟨a1, c1, rfl⟩ := ownsRow_slice hr'; have q0 : w1.cell? ⟨p, 2, none⟩ = some _ := (blk_beneath hH.out.blk hb').cell 2; have q1 : w1.frozen? ⟨p, 2, none⟩ = false := (blk_beneath hH.out.blk hb').frozen 2; have hrH := Lib.hid hr'; have hbH := Lib.hid hb'; clear hr' hb')
      go_ret
      exact ⟨rfl, hendH.out _ _ hrH.out hbH.out⟩
    · have hlt : k < cap := by omega
      have hcall := Lib.hid (clone_at (K := A.drop k) g k (A.length - k) (cap - k) w hlen (fun j u hj => by
        rw [← hd.out, List.getElem?_drop] at hj
        have := hcells (k + j) u hj
        rwa [Nat.zero_add] at this) (by omega))
      clear h hn0 hB hcells hlen hend
      go_enter Try.func18, Try.ntmps18
      go_wp2_with (go_at_call 38; refine hcall.out.mono ?_; rintro e w1 ⟨v', rfl, hr', hb'⟩; obtain ⟨a1, c1, rfl⟩ := ownsRow_slice hr'; have q0 : w1.cell? ⟨p, 2, none⟩ = some _ := (blk_beneath hH.out.blk hb').cell 2; have q1 : w1.frozen? ⟨p, 2, none⟩ = false := (blk_beneath hH.out.blk hb').frozen 2; have hrH := Lib.hid hr'; have hbH := Lib.hid hb'; clear hr' hb')
      go_ret
      exact ⟨rfl, hendH.out _ _ hrH.out hbH.out⟩
end Go.Proofs.Ytklepnldoajghaa
