/- The walk of the law VarsFixed: true at every input. No condition. -/
import Derived.Test.YtklepnldoajghaaVarAC
import Derived.Test.YtklepnldoajghaaVarAD
namespace Go.Proofs.Ytklepnldoajghaa
open Go.RowKit Go.PlainAid
attribute [local go_sem] Oper.semAt_some

/-- The fixed variable stands, away from a block. -/
def FixedM (n₀ : Nat) (w0 w : World) (p m : Nat) (v : ByteArray) : Prop := ∃ L A kv vv av, VarsAt n₀ w p L A kv vv av ∧ m ≠ p ∧ some m ≠ kv.ownBlock ∧ some m ≠ vv.ownBlock ∧ m < w.heap.size ∧ fx L v ∧ Below n₀ w0 w ∧ n₀ ≤ w.heap.size
theorem FixedM.fixed {n₀ p m : Nat} {w0 w : World} {v : ByteArray} (h : FixedM n₀ w0 w p m v) : Fixed n₀ w0 w p v := by
  obtain ⟨L, A, kv, vv, av, hV, _, _, _, _, hf, hb, hn⟩ := h
  exact ⟨L, A, ⟨kv, vv, av, hV⟩, hf, hb, hn⟩
theorem Fixed.alloc {n₀ p : Nat} {w0 w : World} {v : ByteArray} (h : Fixed n₀ w0 w p v) (o : Obj) : FixedM n₀ w0 (w.alloc o) p w.heap.size v := by
  obtain ⟨L, A, ⟨kv, vv, av, hV⟩, hf, hb, hn⟩ := h
  have hbel : Below w.heap.size w (w.alloc o) := (Below.refl _ _).alloc (Nat.le_refl _) _
  refine ⟨L, A, kv, vv, av, hV.beneath hbel, fun e => ?_, fun e => ?_, fun e => ?_, by simp, hf, hb.trans (hbel.mono hn), by simp; omega⟩
  · have := hV.blk.lt; omega
  · have := row_lt hV.keys e.symm; omega
  · have := row_lt hV.vals e.symm; omega
theorem fixedM_set {n₀ p m : Nat} {w0 w : World} {v : ByteArray} (x u : ByteArray) (h : FixedM n₀ w0 w p m v) (hx : x.size ≤ maxLen) : Calls Try.prog 10 #[.pointer (some ⟨p, 0, none⟩), .string x, .string u] w fun e w' => ∃ E, e = .returned (.int .i64 E) ∧ (x = fixedN → E = 63) ∧ Fixed n₀ w0 w' p v ∧ w'.heap[m]? = w.heap[m]? := by
  obtain ⟨L, A, kv, vv, av, hV, m1, m2, m3, m4, hf, hb, hn⟩ := h
  refine (Set_any x u w hV hn hx).mono ?_
  rintro e w' ⟨he, hE⟩
  refine ⟨_, he, ?_, fixed_of hV hb hn hE (fun hs' => (fx_set hf hV.srt hs').1), ?_⟩
  · obtain ⟨_, _, h1, _⟩ := hE
    exact (fx_set hf hV.srt h1.srt).2
  · obtain ⟨_, _, _, h1, _⟩ := hE
    exact h1.block m m4 m1 m2 m3
theorem fixedM_unset {n₀ p m : Nat} {w0 w : World} {v : ByteArray} (x : ByteArray) (h : FixedM n₀ w0 w p m v) (hx : x.size ≤ maxLen) : Calls Try.prog 12 #[.pointer (some ⟨p, 0, none⟩), .string x] w fun e w' => ∃ E, e = .returned (.int .i64 E) ∧ (x = fixedN → E = 63) ∧ Fixed n₀ w0 w' p v ∧ w'.heap[m]? = w.heap[m]? := by
  obtain ⟨L, A, kv, vv, av, hV, m1, m2, m3, m4, hf, hb, hn⟩ := h
  refine (Unset_any x w hV hx).mono ?_
  rintro e w' ⟨he, hE⟩
  refine ⟨_, he, ?_, fixed_of hV hb hn hE (fun hs' => (fx_unset hf hV.srt hs').1), ?_⟩
  · obtain ⟨_, _, h1, _⟩ := hE
    exact (fx_unset hf hV.srt h1.srt).2
  · obtain ⟨_, _, _, h1, _⟩ := hE
    exact h1.block m m4 m1 m2 m3
theorem cls_now {n₀ p k : Nat} {w0 w : World} {v : ByteArray} {A : Option Addr} {q : Cl} (h : Fixed n₀ w0 w p v) (h0 : w0.heap.size = n₀) (hq : ClAt w0 A k q) : ClAt w A k q := by
  obtain ⟨_, _, _, _, hb, _⟩ := h
  exact hq.below (by rw [h0]; exact hb)
theorem fixed_below {n₀ p : Nat} {w0 w : World} {v : ByteArray} (h : Fixed n₀ w0 w p v) : Below n₀ w0 w := by
  obtain ⟨_, _, _, _, hb, _⟩ := h
  exact hb

theorem name_of {x : ByteArray} (h : x.toList = [102, 105, 120, 101, 100]) : x = fixedN := toList_inj (h.trans (by decide +kernel))

set_option maxHeartbeats 1000000 in
theorem fixedLong (v : ByteArray) (A : Option Addr) (len cap : Nat) (w : World) (hv : 65536 < v.size) (hv2 : v.size ≤ maxLen) :
    Calls Try.prog 5 #[.string v, .slice A len cap] w fun e w' => e = .returned (.bool true) ∧ Below w.heap.size w w' := by
  unfold maxLen at hv2
  have h1 : (65536 : Int) < v.size := by omega
  go_enter Try.func5, Try.ntmps5
  go_wp2_with (go_at_call 8; refine (awake_any _).mono ?_; rintro e w1 ⟨rfl, hB1⟩)
  go_ret
  exact ⟨rfl, hB1⟩

set_option maxRecDepth 100000 in
set_option maxHeartbeats 4000000 in
theorem fixed_walk (v : ByteArray) (A : Option Addr) (len cap : Nat) (Q : List Cl) (w : World) (hv : v.size ≤ 65536) (hQ : Q.length = len) (hC : ClsAt w A Q) (hlen : len ≤ maxLen) :
    Calls Try.prog 5 #[.string v, .slice A len cap] w fun e w' => e = .returned (.bool true) ∧ Below w.heap.size w w' := by
  obtain ⟨n₀, hn₀⟩ : ∃ n₀, w.heap.size = n₀ := ⟨_, rfl⟩
  rw [hn₀]
  have hnH := Lib.hid hn₀
  have hQH := Lib.hid hQ
  have hCH := Lib.hid hC
  have h1 : ¬ (65536 : Int) < v.size := by omega
  unfold maxLen at hlen
  clear hn₀ hQ hC
  go_enter Try.func5, Try.ntmps5
  go_wp2_with (go_at_call 8; refine (awake_any _).mono ?_; rintro e w1 ⟨rfl, hB1⟩; rw [hnH.out] at hB1; have hz1 := hB1.size; rw [hnH.out] at hz1; have hB1H := Lib.hid hB1; clear hB1)
  refine (fixed_new n₀ w w1 hB1H.out hz1).mono ?_
  rintro e w2 ⟨p, rfl, hV2, hB2, hz2⟩
  have hV2H := Lib.hid hV2
  have hB2H := Lib.hid hB2
  clear hV2 hB2
  go_wp2_with fail
  refine (fixed_first n₀ w w2 p v hV2H.out hB2H.out hz2 hv).mono ?_
  rintro e w3 ⟨rfl, hV3, hB3, hz3⟩
  have hV3H := Lib.hid hV3
  have hB3H := Lib.hid hB3
  clear hV3 hB3
  go_wp2_with fail
  refine (fixed_second n₀ w w3 p v hV3H.out hB3H.out hz3).mono ?_
  rintro e w4 ⟨rfl, hF4⟩
  have hF4H := Lib.hid hF4
  clear hF4
  go_wp2_with fail
  go_loopw [5, 29] (fun s5 s29 wr => ∃ k p : Nat, k ≤ len ∧ k ≤ 150 ∧ s5 = .pointer (some ⟨p, 0, none⟩) ∧ s29 = .int .i64 k ∧ Hid (Fixed n₀ w wr p v)) (fun _ s29 _ => len - (intOf s29).toNat)
  case atStart => exact ⟨0, p, Nat.zero_le _, Nat.zero_le _, rfl, rfl, hF4H⟩
  case round =>
    obtain ⟨k, q0, hk, hk2, rfl, rfl, hF⟩ := hrel
    clear hF4H hV2H hB2H hV3H hB3H hB1H
    by_cases hlt : k < len
    · obtain ⟨q, hq⟩ : ∃ q, Q[k]? = some q := ⟨_, List.getElem?_eq_getElem (by rw [hQH.out]; exact hlt)⟩
      obtain ⟨b, off, a, c, rfl, hbl, c0, c1, c2, c3, c4, c5, c6, hac, hls, hn, hs1, hs2, hcm, hss⟩ := cls_now hF.out hnH.out (hCH.out k q hq)
      obtain ⟨what, num, name, val, ex, ro, args⟩ := q
      have hi : (k : Int) < (len : Int) := by omega
      dsimp only at c0 c1 c2 c3 c4 c5 c6 hs1 hs2
      clear hq hn hss hls
      obtain ⟨an, han⟩ : ∃ an, args.length = an := ⟨_, rfl⟩
      rw [han] at c6
      clear han hac hcm
      by_cases h150 : k = 150
      · subst h150
        go_wp2_with fail
        go_ret
        exact ⟨rfl, (fixed_below hF.out).alloc (by have := hF.out; obtain ⟨_, _, _, _, _, hh⟩ := this; exact hh) _⟩
      · have h150' : ¬ ((k : Int) = 150) := by omega
        by_cases w0 : what = 0
        · subst w0
          go_wp2_with fail
          obtain ⟨m, hm⟩ : ∃ m, wr.heap.size = m := ⟨_, rfl⟩
          have hFM := hF.out.alloc (.cells #[.int .i64 0, .int .i64 num, .string name, .string val, .bool ex, .bool ro, .slice a an c] 34)
          have hBm := Blk.new wr 34 #[.int .i64 0, .int .i64 num, .string name, .string val, .bool ex, .bool ro, .slice a an c]
          rw [hm] at hFM hBm ⊢
          refine (fixedM_set name val hFM hs1).mono ?_
          rintro e w6 ⟨E, rfl, hE, hF6, hm6⟩
          have hB6 : Blk w6 m 34 _ := hm6.trans hBm
          have d2 : w6.cell? ⟨m, 2, none⟩ = some (.string name) := hB6.cell 2
          have hF6H := Lib.hid hF6
          have hEH := Lib.hid hE
          clear hF hF6 hE hFM hBm hm6 hB6 c0 c1 c2 c3 c4 c5 c6 hm
          go_wp2_with fail
          all_goals first
            | (rename_i z1 z2
               exact absurd z2 (by rw [hEH.out (name_of z1)]; decide))
            | skip
          all_goals
            refine (fixed_get hF6H.out).mono ?_
            rintro e w7 ⟨rfl, hF7⟩
            have hF7H := Lib.hid hF7
            clear hF7
            go_wp2_with fail
            go_roundw
            case rel => exact ⟨k + 1, q0, by omega, by omega, rfl, by go_num, hF7H⟩
            case measure => simp [intOf]; omega
        · by_cases w1 : what = 1
          · subst w1
            go_wp2_with fail
            obtain ⟨m, hm⟩ : ∃ m, wr.heap.size = m := ⟨_, rfl⟩
            have hFM := hF.out.alloc (.cells #[.int .i64 1, .int .i64 num, .string name, .string val, .bool ex, .bool ro, .slice a an c] 34)
            have hBm := Blk.new wr 34 #[.int .i64 1, .int .i64 num, .string name, .string val, .bool ex, .bool ro, .slice a an c]
            rw [hm] at hFM hBm ⊢
            refine (fixedM_unset name hFM hs1).mono ?_
            rintro e w6 ⟨E, rfl, hE, hF6, hm6⟩
            have hB6 : Blk w6 m 34 _ := hm6.trans hBm
            have d2 : w6.cell? ⟨m, 2, none⟩ = some (.string name) := hB6.cell 2
            have hF6H := Lib.hid hF6
            have hEH := Lib.hid hE
            clear hF hF6 hE hFM hBm hm6 hB6 c0 c1 c2 c3 c4 c5 c6 hm
            go_wp2_with fail
            all_goals first
              | (rename_i z1 z2
                 exact absurd z2 (by rw [hEH.out (name_of z1)]; decide))
              | skip
            all_goals
              refine (fixed_get hF6H.out).mono ?_
              rintro e w7 ⟨rfl, hF7⟩
              have hF7H := Lib.hid hF7
              clear hF7
              go_wp2_with fail
              go_roundw
              case rel => exact ⟨k + 1, q0, by omega, by omega, rfl, by go_num, hF7H⟩
              case measure => simp [intOf]; omega
          · by_cases w2 : what = 2
            · subst w2
              go_wp2_with fail
              obtain ⟨m, hm⟩ : ∃ m, wr.heap.size = m := ⟨_, rfl⟩
              have hFM := hF.out.alloc (.cells #[.int .i64 2, .int .i64 num, .string name, .string val, .bool ex, .bool ro, .slice a an c] 34)
              have hBm := Blk.new wr 34 #[.int .i64 2, .int .i64 num, .string name, .string val, .bool ex, .bool ro, .slice a an c]
              rw [hm] at hFM hBm ⊢
              refine (fixed_mark name ex ro hFM.fixed hs1).mono ?_
              rintro e w6 ⟨E, rfl, hF6⟩
              have hF6H := Lib.hid hF6
              clear hF hF6 hFM hBm c0 c1 c2 c3 c4 c5 c6 hm
              go_wp2_with fail
              refine (fixed_get hF6H.out).mono ?_
              rintro e w7 ⟨rfl, hF7⟩
              have hF7H := Lib.hid hF7
              clear hF7
              go_wp2_with fail
              go_roundw
              case rel => exact ⟨k + 1, q0, by omega, by omega, rfl, by go_num, hF7H⟩
              case measure => simp [intOf]; omega
            · by_cases w5 : what = 5
              · subst w5
                go_wp2_with fail
                obtain ⟨m, hm⟩ : ∃ m, wr.heap.size = m := ⟨_, rfl⟩
                have hFM := hF.out.alloc (.cells #[.int .i64 5, .int .i64 num, .string name, .string val, .bool ex, .bool ro, .slice a an c] 34)
                have hBm := Blk.new wr 34 #[.int .i64 5, .int .i64 num, .string name, .string val, .bool ex, .bool ro, .slice a an c]
                rw [hm] at hFM hBm ⊢
                refine (fixed_copy hFM.fixed).mono ?_
                rintro e w6 ⟨q1, rfl, hF6⟩
                have hF6H := Lib.hid hF6
                clear hF hF6 hFM hBm c0 c1 c2 c3 c4 c5 c6 hm
                go_wp2_with fail
                refine (fixed_get hF6H.out).mono ?_
                rintro e w7 ⟨rfl, hF7⟩
                have hF7H := Lib.hid hF7
                clear hF7
                go_wp2_with fail
                go_roundw
                case rel => exact ⟨k + 1, q1, by omega, by omega, rfl, by go_num, hF7H⟩
                case measure => simp [intOf]; omega
              · go_wp2_with fail
                obtain ⟨m, hm⟩ : ∃ m, wr.heap.size = m := ⟨_, rfl⟩
                have hFM := hF.out.alloc (.cells #[.int .i64 what, .int .i64 num, .string name, .string val, .bool ex, .bool ro, .slice a an c] 34)
                have hBm := Blk.new wr 34 #[.int .i64 what, .int .i64 num, .string name, .string val, .bool ex, .bool ro, .slice a an c]
                rw [hm] at hFM hBm ⊢
                have hF6H := Lib.hid hFM.fixed
                clear hF hFM hBm c0 c1 c2 c3 c4 c5 c6 hm
                refine (fixed_get hF6H.out).mono ?_
                rintro e w7 ⟨rfl, hF7⟩
                have hF7H := Lib.hid hF7
                clear hF7
                go_wp2_with fail
                go_roundw
                case rel => exact ⟨k + 1, q0, by omega, by omega, rfl, by go_num, hF7H⟩
                case measure => simp [intOf]; omega
    · obtain rfl : k = len := by omega
      go_wp2_with fail
      go_ret
      exact ⟨rfl, fixed_below hF.out⟩
end Go.Proofs.Ytklepnldoajghaa
