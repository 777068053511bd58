/- backslash of a word's reader. No condition. -/
import Derived.Test.YtgpkhpheomaiaaaRdH
namespace Go.Proofs.Ytgpkhpheomaiaaa
open Go.RowKit Go.PlainAid
attribute [local go_sem] Oper.semAt_some

section
variable {s : ByteArray} {k : Int} {i : Nat} {st : St}
theorem bs_end (h : i + 1 = s.size) : bsM s k i st = (i + 1, st.take ⟨#[92]⟩ true) := by unfold bsM; rw [if_pos h]
theorem bs_line (h : i + 1 ≠ s.size) (h1 : bt s (i + 1) = 10) : bsM s k i st = (i + 2, st) := by unfold bsM; rw [if_neg h, if_pos h1]
theorem bs_lit (h : i + 1 ≠ s.size) (h1 : (bt s (i + 1) == 10) = false) (h2 : k = 0 ∨ bt s (i + 1) = 36 ∨ bt s (i + 1) = 96 ∨ bt s (i + 1) = 92 ∨ (bt s (i + 1) = 34 ∧ k = 1)) : bsM s k i st = (i + 2, st.take (s.extract (i + 1) (i + 2)) true) := by
  unfold bsM; rw [if_neg h, if_neg (by simpa using h1), if_pos h2]
theorem bs_else (h : i + 1 ≠ s.size) (h1 : (bt s (i + 1) == 10) = false) (h2 : (k == 0) = false) (h3 : (bt s (i + 1) == 36) = false) (h4 : (bt s (i + 1) == 96) = false) (h5 : (bt s (i + 1) == 92) = false) (h6 : ¬ (bt s (i + 1) = 34 ∧ k = 1)) : bsM s k i st = (i + 1, st.take ⟨#[92]⟩ true) := by
  unfold bsM; rw [if_neg h, if_neg (by simpa using h1), if_neg]
  simp at h2 h3 h4 h5
  rintro (h | h | h | h | h)
  · exact h2 h
  · exact h3 h
  · exact h4 h
  · exact h5 h
  · exact h6 h
end
theorem ret_int2 {a : Int} {b : Nat} (h : a = b) : Ending.returned (.int .i64 a) = .returned (.int .i64 b) := by rw [h]
theorem RdPost.refl {w : World} {b n₀ : Nat} {t : ByteArray} {k d : Int} {D : Nat} {st : St} {O : Nat → Prop} (h : Rd w b n₀ t k d D st O) : RdPost w b n₀ t k d D O st w := ⟨O, h, fun _ h => .inl h, Frm.refl O w⟩

section
variable {w : World} {b n₀ : Nat} {t : ByteArray} {k d : Int} {D : Nat} {st : St} {O : Nat → Prop}

set_option maxHeartbeats 4000000 in
theorem backslash_rd (h : Rd w b n₀ t k d D st O) (i : Nat) (hi : i < t.size) (ht : t.size ≤ 65536) (hlen : st.ps.length ≤ 65536) (hby : st.bytes.length ≤ 65536) :
    Calls Try.prog 31 #[.pointer (some ⟨b, 0, none⟩), .int .i64 i] w fun e w' => e = .returned (.int .i64 (bsM t k i st).1) ∧ RdPost w b n₀ t k d D O (bsM t k i st).2 w' := by
  have hb := get_bt t
  obtain ⟨a0, n0, c0, a1, c1, hB⟩ := h.blk
  have e0 : w.cell? ⟨b, 0, none⟩ = some (.string t) := hB.cell 0
  have e1 : w.cell? ⟨b, 1, none⟩ = some (.int .i64 k) := hB.cell 1
  have hH := Lib.hid h
  clear h hB
  by_cases hend : i + 1 = t.size
  · have hr := Lib.hid (bs_end (k := k) (st := st) hend)
    have hE : ((i : Int) + 1 == (t.size : Int)) = true := by simp; omega
    have hc := Lib.hid (take_rd hH.out ⟨#[92]⟩ true (by omega) (by show st.bytes.length + 1 ≤ _; omega))
    clear hend
    go_enter Try.func31, Try.ntmps31
    go_wp2_with (go_at_call 35; refine hc.out.mono ?_; rintro e w' ⟨rfl, hp⟩; have hpH := Lib.hid hp; clear hp)
    go_ret
    rw [hr.out]
    exact ⟨ret_int2 (by simp), hpH.out⟩
  · have hE : ((i : Int) + 1 == (t.size : Int)) = false := by simp; omega
    have hlt : i + 1 < t.size := by omega
    have hx : (t.extract (i + 1) (i + 2)).size = 1 := by rw [ext_size]; omega
    have hc := Lib.hid (take_rd hH.out ⟨#[92]⟩ true (by omega) (by show st.bytes.length + 1 ≤ _; omega))
    have hc2 := Lib.hid (take_rd hH.out (t.extract (i + 1) (i + 2)) true (by omega) (by omega))
    have hendH := Lib.hid hend
    clear hx hend
    cases h10 : (bt t (i + 1) == 10)
    · cases h0 : (k == 0)
      · cases h36 : (bt t (i + 1) == 36)
        · cases h96 : (bt t (i + 1) == 96)
          · cases h92 : (bt t (i + 1) == 92)
            · cases h34 : (bt t (i + 1) == 34)
              · have hr := Lib.hid (bs_else (k := k) (st := st) hendH.out h10 h0 h36 h96 h92 (fun h => by rw [h.1] at h34; cases h34))
                go_enter Try.func31, Try.ntmps31
                go_wp2_with (go_at_call 35; refine hc.out.mono ?_; rintro e w' ⟨rfl, hp⟩; have hpH := Lib.hid hp; clear hp)
                go_ret
                rw [hr.out]
                exact ⟨ret_int2 (by simp), hpH.out⟩
              · cases h1 : (k == 1)
                · have hr := Lib.hid (bs_else (k := k) (st := st) hendH.out h10 h0 h36 h96 h92 (fun h => by rw [h.2] at h1; cases h1))
                  go_enter Try.func31, Try.ntmps31
                  go_wp2_with (go_at_call 35; refine hc.out.mono ?_; rintro e w' ⟨rfl, hp⟩; have hpH := Lib.hid hp; clear hp)
                  go_ret
                  rw [hr.out]
                  exact ⟨ret_int2 (by simp), hpH.out⟩
                · have hr := Lib.hid (bs_lit (k := k) (st := st) hendH.out h10 (.inr (.inr (.inr (.inr ⟨eq_of_beq h34, eq_of_beq h1⟩)))))
                  go_enter Try.func31, Try.ntmps31
                  go_wp2_with (go_at_call 35; refine hc2.out.mono ?_; rintro e w' ⟨rfl, hp⟩; have hpH := Lib.hid hp; clear hp)
                  go_ret
                  rw [hr.out]
                  exact ⟨ret_int2 (by simp), hpH.out⟩
            · have hr := Lib.hid (bs_lit (k := k) (st := st) hendH.out h10 (.inr (.inr (.inr (.inl (eq_of_beq h92))))))
              go_enter Try.func31, Try.ntmps31
              go_wp2_with (go_at_call 35; refine hc2.out.mono ?_; rintro e w' ⟨rfl, hp⟩; have hpH := Lib.hid hp; clear hp)
              go_ret
              rw [hr.out]
              exact ⟨ret_int2 (by simp), hpH.out⟩
          · have hr := Lib.hid (bs_lit (k := k) (st := st) hendH.out h10 (.inr (.inr (.inl (eq_of_beq h96)))))
            go_enter Try.func31, Try.ntmps31
            go_wp2_with (go_at_call 35; refine hc2.out.mono ?_; rintro e w' ⟨rfl, hp⟩; have hpH := Lib.hid hp; clear hp)
            go_ret
            rw [hr.out]
            exact ⟨ret_int2 (by simp), hpH.out⟩
        · have hr := Lib.hid (bs_lit (k := k) (st := st) hendH.out h10 (.inr (.inl (eq_of_beq h36))))
          go_enter Try.func31, Try.ntmps31
          go_wp2_with (go_at_call 35; refine hc2.out.mono ?_; rintro e w' ⟨rfl, hp⟩; have hpH := Lib.hid hp; clear hp)
          go_ret
          rw [hr.out]
          exact ⟨ret_int2 (by simp), hpH.out⟩
      · have hr := Lib.hid (bs_lit (k := k) (st := st) hendH.out h10 (.inl (eq_of_beq h0)))
        go_enter Try.func31, Try.ntmps31
        go_wp2_with (go_at_call 35; refine hc2.out.mono ?_; rintro e w' ⟨rfl, hp⟩; have hpH := Lib.hid hp; clear hp)
        go_ret
        rw [hr.out]
        exact ⟨ret_int2 (by simp), hpH.out⟩
    · have hr := Lib.hid (bs_line (k := k) (st := st) hendH.out (eq_of_beq h10))
      go_enter Try.func31, Try.ntmps31
      go_wp2
      go_ret
      rw [hr.out]
      exact ⟨ret_int2 (by simp), RdPost.refl hH.out⟩
end
end Go.Proofs.Ytgpkhpheomaiaaa
