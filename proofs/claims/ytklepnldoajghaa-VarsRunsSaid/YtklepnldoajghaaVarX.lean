/- The walk of the law VarsShifts: true at every input. No condition. -/
import Derived.Test.YtklepnldoajghaaVarW
namespace Go.Proofs.Ytklepnldoajghaa
open Go.RowKit Go.Shelf Go.PlainAid
attribute [local go_sem] Oper.semAt_some

set_option maxRecDepth 100000 in
set_option maxHeartbeats 2000000 in
theorem shifts_out (A : Option Addr) (n c : Nat) (a b : Int) (w : World) (hn : n ≤ maxLen) (h : (200 : Int) < n ∨ a < 0 ∨ b < 0 ∨ 300 < a ∨ 300 < b) :
    Calls Try.prog 6 #[.slice A n c, .int .i64 a, .int .i64 b] w fun e w' => e = .returned (.bool true) ∧ Below w.heap.size w w' := by
  unfold maxLen at hn
  by_cases h1 : (200 : Int) < n
  · clear h
    go_enter Try.func6, Try.ntmps6
    go_wp2_with (go_at_call 8; refine (awake_any _).mono ?_; rintro e w1 ⟨rfl, hB1⟩)
    go_ret
    exact ⟨rfl, hB1⟩
  · by_cases h2 : a < 0
    · clear h
      go_enter Try.func6, Try.ntmps6
      go_wp2_with (go_at_call 8; refine (awake_any _).mono ?_; rintro e w1 ⟨rfl, hB1⟩)
      go_ret
      exact ⟨rfl, hB1⟩
    · by_cases h3 : b < 0
      · clear h
        go_enter Try.func6, Try.ntmps6
        go_wp2_with (go_at_call 8; refine (awake_any _).mono ?_; rintro e w1 ⟨rfl, hB1⟩)
        go_ret
        exact ⟨rfl, hB1⟩
      · by_cases h4 : 300 < a
        · clear h
          go_enter Try.func6, Try.ntmps6
          go_wp2_with (go_at_call 8; refine (awake_any _).mono ?_; rintro e w1 ⟨rfl, hB1⟩)
          go_ret
          exact ⟨rfl, hB1⟩
        · have h5 : 300 < b := by omega
          clear h
          go_enter Try.func6, Try.ntmps6
          go_wp2_with (go_at_call 8; refine (awake_any _).mono ?_; rintro e w1 ⟨rfl, hB1⟩)
          go_ret
          exact ⟨rfl, hB1⟩

theorem two_shift3 {n₀ p q : Nat} {w0 w : World} {A B : List ByteArray} (i j : Nat) (h : Two n₀ w0 w p q A B) (hk : i + j ≤ B.length) :
    Calls Try.prog 18 #[.pointer (some ⟨q, 0, none⟩), .int .i64 ((i : Int) + j)] w fun e w' => e = .returned (.int .i64 0) ∧ Two n₀ w0 w' p q A (B.drop (i + j)) := by
  have := two_shift2 (i + j) h hk
  rwa [Int.natCast_add] at this

set_option maxRecDepth 100000 in
set_option maxHeartbeats 4000000 in
theorem shifts_in (v : Value) (K : List ByteArray) (i j : Nat) (w : World) (hv : TxAt w v K) (hK : K.length ≤ 200) (hi : i ≤ 300) (hj : j ≤ 300) :
    Calls Try.prog 6 #[v, .int .i64 i, .int .i64 j] w fun e w' => e = .returned (.bool true) ∧ Below w.heap.size w w' := by
  obtain ⟨n₀, hn₀⟩ : ∃ n₀, w.heap.size = n₀ := ⟨_, rfl⟩
  rw [hn₀]
  have hnH := Lib.hid hn₀
  have hvH := Lib.hid hv
  obtain ⟨va, vc, rfl⟩ := hv.slice
  obtain ⟨n, hn⟩ : ∃ n, K.length = n := ⟨_, rfl⟩
  have hlH := Lib.hid hn
  have hKH := Lib.hid hK
  have g1 : ¬ (200 : Int) < n := by omega
  have g2 : ¬ (i : Int) < 0 := by omega
  have g3 : ¬ (j : Int) < 0 := by omega
  have g4 : ¬ (300 : Int) < i := by omega
  have g5 : ¬ (300 : Int) < j := by omega
  rw [hn] at hvH ⊢
  clear hn₀ hv hn hK
  go_enter Try.func6, Try.ntmps6
  go_wp2_with (go_at_call 8; refine (awake_any _).mono ?_; rintro e w1 ⟨rfl, hB1⟩; rw [hnH.out] at hB1; have hz1 := hB1.size; rw [hnH.out] at hz1; have hB1H := Lib.hid hB1; clear hB1)
  refine (new_any n₀ w1 hz1).mono ?_
  rintro e w2 ⟨rfl, hB2, hV2⟩
  have hz2 := Nat.le_trans hz1 hB2.size
  have hB2H := Lib.hid (hB1H.out.trans (hB2.mono hz1))
  obtain ⟨p, hp⟩ : ∃ p, w1.heap.size = p := ⟨_, rfl⟩
  rw [hp] at hV2 ⊢
  have hV2H := Lib.hid hV2
  clear hB2 hV2 hp
  go_wp2_with fail
  refine (two_new ⟨_, hV2H.out⟩ hB2H.out hz2).mono ?_
  rintro e w3 ⟨q, rfl, hT3⟩
  have hT3H := Lib.hid hT3
  clear hT3
  go_wp2_with fail
  refine (two_set1 hT3H.out hnH.out hvH.out hKH.out).mono ?_
  rintro e w4 ⟨rfl, hT4⟩
  have hT4H := Lib.hid hT4
  clear hT4
  go_wp2_with fail
  refine (two_set2 hT4H.out hnH.out hvH.out hKH.out).mono ?_
  rintro e w5 ⟨rfl, hT5⟩
  have hT5H := Lib.hid hT5
  clear hT5
  go_wp2_with fail
  by_cases h1 : i ≤ n
  · refine (two_shift1 i hT5H.out (by rw [hlH.out]; exact h1)).mono ?_
    rintro e w6 ⟨rfl, hT6⟩
    have hT6H := Lib.hid hT6
    clear hT6
    go_wp2_with fail
    by_cases h2 : i + j ≤ n
    · refine (two_shift1 j hT6H.out (by rw [List.length_drop, hlH.out]; omega)).mono ?_
      rintro e w7 ⟨rfl, hT7⟩
      rw [List.drop_drop] at hT7
      have hT7H := Lib.hid hT7
      clear hT7
      go_wp2_with fail
      refine (two_shift3 i j hT7H.out (by rw [hlH.out]; exact h2)).mono ?_
      rintro e w8 ⟨rfl, hT8⟩
      obtain ⟨Kd, hKd⟩ : ∃ Kd, K.drop (i + j) = Kd := ⟨_, rfl⟩
      rw [hKd] at hT8
      have hKdH := Lib.hid hKd
      have hT8H := Lib.hid hT8
      have hdl : Kd.length ≤ 100000 := by have := hKH.out; rw [← hKd]; rw [List.length_drop]; omega
      have hdlH := Lib.hid hdl
      clear hdl hKd hT8
      rcases hvH.out with ⟨e1, e2⟩ | ⟨b, off, c, e1, hc, hcl⟩
      · have hn0 : n = 0 := by rw [← hlH.out, e2]; rfl
        obtain rfl : i = 0 := by omega
        obtain rfl : j = 0 := by omega
        have hu : TxAt w (.slice none 0 0) Kd := by rw [← hKdH.out, e2]; exact .inl ⟨rfl, rfl⟩
        obtain ⟨rfl, rfl⟩ : va = none ∧ vc = 0 := by
          rw [hn0] at e1
          simpa using e1
        subst hn0
        have huH := Lib.hid hu
        clear hu e1 e2 h2
        go_wp2_with fail
        refine (two_args1 hT8H.out).mono ?_
        rintro e w9 ⟨v9, rfl, hx9, hT9⟩
        obtain ⟨a9, c9, rfl⟩ := hx9.slice
        have hT9H := Lib.hid hT9
        have hx9H := Lib.hid hx9
        clear hT9 hx9
        go_wp2_with fail
        refine (two_texts hT9H.out hx9H.out (hT9H.out.tx hnH.out huH.out) hdlH.out).mono ?_
        rintro e w10 ⟨rfl, hT10⟩
        have hT10H := Lib.hid hT10
        clear hT10
        go_wp2_with fail
        refine (two_args2 hT10H.out).mono ?_
        rintro e w11 ⟨v11, rfl, hx11, hT11⟩
        obtain ⟨a11, c11, rfl⟩ := hx11.slice
        have hT11H := Lib.hid hT11
        have hx11H := Lib.hid hx11
        clear hT11 hx11
        go_wp2_with fail
        refine (two_texts hT11H.out hx11H.out (hT11H.out.tx hnH.out huH.out) hdlH.out).mono ?_
        rintro e w12 ⟨rfl, hT12⟩
        go_wp2_with fail
        go_ret
        exact ⟨rfl, hT12.below⟩
      · have hva : va = some ⟨b, off, none⟩ := by simp at e1; exact e1.1
        have hvc : vc = c := by simp at e1; exact e1.2.2
        subst hva hvc
        rw [hlH.out] at hc
        by_cases hck : vc = i + j
        · have hu : TxAt w (.slice (some ⟨b, off, none⟩) (n - (i + j)) 0) Kd := by rw [← hKdH.out]; exact .drop_all (by omega) (by rw [hlH.out]; omega)
          have huH := Lib.hid hu
          clear hu e1 hcl
          go_wp2_with fail
          refine (two_args1 hT8H.out).mono ?_
          rintro e w9 ⟨v9, rfl, hx9, hT9⟩
          obtain ⟨a9, c9, rfl⟩ := hx9.slice
          have hT9H := Lib.hid hT9
          have hx9H := Lib.hid hx9
          clear hT9 hx9
          go_wp2_with fail
          refine (two_texts hT9H.out hx9H.out (hT9H.out.tx hnH.out huH.out) hdlH.out).mono ?_
          rintro e w10 ⟨rfl, hT10⟩
          have hT10H := Lib.hid hT10
          clear hT10
          go_wp2_with fail
          refine (two_args2 hT10H.out).mono ?_
          rintro e w11 ⟨v11, rfl, hx11, hT11⟩
          obtain ⟨a11, c11, rfl⟩ := hx11.slice
          have hT11H := Lib.hid hT11
          have hx11H := Lib.hid hx11
          clear hT11 hx11
          go_wp2_with fail
          refine (two_texts hT11H.out hx11H.out (hT11H.out.tx hnH.out huH.out) hdlH.out).mono ?_
          rintro e w12 ⟨rfl, hT12⟩
          go_wp2_with fail
          go_ret
          exact ⟨rfl, hT12.below⟩
        · have hu : TxAt w (.slice (some ⟨b, off + (i + j), none⟩) (n - (i + j)) (vc - (i + j))) Kd := by
            rw [← hKdH.out]
            have h := TxAt.drop_at (k := i + j) (K := K) (w := w) (b := b) (off := off) (c := vc) (by rw [hlH.out]; exact hvH.out) (by rw [hlH.out]; exact h2)
            rwa [hlH.out] at h
          have hlt : i + j < vc := by omega
          have huH := Lib.hid hu
          clear hu e1 hcl hck
          go_wp2_with fail
          refine (two_args1 hT8H.out).mono ?_
          rintro e w9 ⟨v9, rfl, hx9, hT9⟩
          obtain ⟨a9, c9, rfl⟩ := hx9.slice
          have hT9H := Lib.hid hT9
          have hx9H := Lib.hid hx9
          clear hT9 hx9
          go_wp2_with fail
          refine (two_texts hT9H.out hx9H.out (hT9H.out.tx hnH.out huH.out) hdlH.out).mono ?_
          rintro e w10 ⟨rfl, hT10⟩
          have hT10H := Lib.hid hT10
          clear hT10
          go_wp2_with fail
          refine (two_args2 hT10H.out).mono ?_
          rintro e w11 ⟨v11, rfl, hx11, hT11⟩
          obtain ⟨a11, c11, rfl⟩ := hx11.slice
          have hT11H := Lib.hid hT11
          have hx11H := Lib.hid hx11
          clear hT11 hx11
          go_wp2_with fail
          refine (two_texts hT11H.out hx11H.out (hT11H.out.tx hnH.out huH.out) hdlH.out).mono ?_
          rintro e w12 ⟨rfl, hT12⟩
          go_wp2_with fail
          go_ret
          exact ⟨rfl, hT12.below⟩
    · have hbad : ((K.drop i).length : Int) < j := by rw [List.length_drop, hlH.out]; omega
      have hbad2 : (K.length : Int) < (i : Int) + j := by rw [hlH.out]; omega
      have hna : ¬ (n : Int) < (i : Int) := by omega
      refine (two_bad1 j hT6H.out hbad).mono ?_
      rintro e w7 ⟨rfl, rfl⟩
      clear hbad
      go_wp2_with fail
      refine (two_bad2 _ hT6H.out hbad2).mono ?_
      rintro e w8 ⟨rfl, rfl⟩
      clear hbad2
      go_wp2_with fail
      refine (two_args2 hT6H.out).mono ?_
      rintro e w9 ⟨v9, rfl, hx9, hT9⟩
      obtain ⟨a9, c9, rfl⟩ := hx9.slice
      have hT9H := Lib.hid hT9
      have hx9H := Lib.hid hx9
      clear hT9 hx9
      go_wp2_with fail
      refine (two_texts hT9H.out hx9H.out (by rw [← hlH.out]; exact hT9H.out.tx hnH.out (by rw [hlH.out]; exact hvH.out)) (by have := hKH.out; omega)).mono ?_
      rintro e w10 ⟨rfl, hT10⟩
      go_wp2_with fail
      go_ret
      exact ⟨ret_bool (by rw [decide_eq_false (by omega)]; rfl), hT10.below⟩
  · have hbad : (K.length : Int) < i := by rw [hlH.out]; omega
    have hbad2 : (K.length : Int) < (i : Int) + j := by rw [hlH.out]; omega
    have hna : (n : Int) < (i : Int) := by omega
    refine (two_bad1 i hT5H.out hbad).mono ?_
    rintro e w6 ⟨rfl, rfl⟩
    clear hbad
    go_wp2_with fail
    refine (two_bad2 _ hT5H.out hbad2).mono ?_
    rintro e w8 ⟨rfl, rfl⟩
    clear hbad2
    go_wp2_with fail
    refine (two_args2 hT5H.out).mono ?_
    rintro e w9 ⟨v9, rfl, hx9, hT9⟩
    obtain ⟨a9, c9, rfl⟩ := hx9.slice
    have hT9H := Lib.hid hT9
    have hx9H := Lib.hid hx9
    clear hT9 hx9
    go_wp2_with fail
    refine (two_texts hT9H.out hx9H.out (by rw [← hlH.out]; exact hT9H.out.tx hnH.out (by rw [hlH.out]; exact hvH.out)) (by have := hKH.out; omega)).mono ?_
    rintro e w10 ⟨rfl, hT10⟩
    go_wp2_with fail
    go_ret
    exact ⟨rfl, hT10.below⟩
end Go.Proofs.Ytklepnldoajghaa
