/- bare, fits, add, turn. No condition. -/
import Derived.Test.YtlaidmjlgjpgcaaPatN
import Derived.Test.YtlaidmjlgjpgcaaSplAD
import Derived.Laws.BitsAllLaws
import Derived.IntWalk
import Derived.StillTailTactics
namespace Go.Proofs.Ytlaidmjlgjpgcaa
open Go.RowKit
attribute [local go_sem] Oper.semAt_some

set_option maxHeartbeats 1000000 in
theorem bare_any (x : Ch) (b : UInt8) (w : World) :
    Calls Try.prog 36 #[.agg #[.int .u8 (x.1.toNat : Int), .bool x.2], .int .u8 (b.toNat : Int)] w fun e w' => e = .returned (.bool (bareB x b)) ∧ Below w.heap.size w w' := by
  obtain ⟨c, q⟩ := x
  by_cases he : c = b
  · have e1 : ((c.toNat : Int) == (b.toNat : Int)) = true := by rw [he]; simp
    have e2 : Hid (bareB (c, q) b = !q) := Lib.hid (by unfold bareB; rw [he]; simp)
    clear he
    dsimp only
    go_enter Try.func36, Try.ntmps36
    go_wp2_with fail
    go_ret
    exact ⟨ret_bool (by rw [e2.out]), (Below.refl _ _).alloc (Nat.le_refl _) _⟩
  · have e1 : ((c.toNat : Int) == (b.toNat : Int)) = false := by rw [u8_eq]; exact decide_eq_false he
    have e2 : Hid (bareB (c, q) b = false) := Lib.hid (by unfold bareB; rw [beq_eq_false_iff_ne.2 he]; rfl)
    clear he
    dsimp only
    go_enter Try.func36, Try.ntmps36
    go_wp2_with fail
    go_ret
    exact ⟨ret_bool (by rw [e2.out]), (Below.refl _ _).alloc (Nat.le_refl _) _⟩

theorem shl_bit (n : Nat) : IntKind.u64.wrap (2 ^ (n % 64)) = ((2 ^ (n % 64) : Nat) : Int) := by
  have h : (2 : Nat) ^ (n % 64) ≤ 2 ^ 63 := Nat.pow_le_pow_right (by omega) (by omega)
  rw [show ((2 : Int) ^ (n % 64)) = ((2 ^ (n % 64) : Nat) : Int) by simp]
  obtain ⟨y, hy⟩ : ∃ y, 2 ^ (n % 64) = y := ⟨_, rfl⟩
  rw [hy] at h ⊢
  exact IntWalk.u64_in _ ⟨by omega, by omega⟩
theorem bit_lt (n : Nat) : 2 ^ (n % 64) < 18446744073709551616 := by
  have h : (2 : Nat) ^ (n % 64) ≤ 2 ^ 63 := Nat.pow_le_pow_right (by omega) (by omega)
  omega
theorem and_bit (x n : Nat) (hx : x < 18446744073709551616) : (bits BinOp.and IntKind.u64 (x : Int) (IntKind.u64.wrap (2 ^ (n % 64))) != 0) = x.testBit (n % 64) := by
  rw [shl_bit, u64_and_nat _ _ hx (bit_lt n), nat_bit, Nat.testBit_eq_decide_div_mod_eq]
  have hp : 0 < 2 ^ (n % 64) := Nat.pow_pos (by omega)
  have hp2 : ¬ 2 ^ (n % 64) = 0 := by omega
  rcases Nat.mod_two_eq_zero_or_one (x / 2 ^ (n % 64)) with h | h
  · rw [h]; simp
  · rw [h, Nat.one_mul]
    obtain ⟨y, hy⟩ : ∃ y, 2 ^ (n % 64) = y := ⟨_, rfl⟩
    rw [hy] at hp2 ⊢
    simp [hp2]
theorem or_bit (x n : Nat) (hx : x < 18446744073709551616) : bits BinOp.or IntKind.u64 (x : Int) (IntKind.u64.wrap (2 ^ (n % 64))) = ((x ||| 2 ^ (n % 64) : Nat) : Int) := by
  rw [shl_bit, u64_or_nat _ _ hx (bit_lt n)]

set_option maxHeartbeats 1000000 in
theorem fits_any (g off : Nat) (k : Nat) (x : Nat) (c : UInt8) (w : World) (hk : c.toNat / 64 = k) (hk4 : k < 4) (hc : w.cell? ⟨g, off + 1 + k, none⟩ = some (.int .u64 x)) (hx : x < 18446744073709551616) :
    Calls Try.prog 47 #[.pointer (some ⟨g, off, none⟩), .int .u8 (c.toNat : Int)] w fun e w' => e = .returned (.bool (x.testBit (c.toNat % 64))) ∧ w = w' := by
  have hab := Lib.hid (and_bit x c.toNat hx)
  obtain ⟨n, hn⟩ : ∃ n, c.toNat = n := ⟨_, rfl⟩
  have h256 : n < 256 := by rw [← hn]; exact c.toNat_lt
  rw [hn] at hk hab ⊢
  clear hx
  go_enter Try.func47, Try.ntmps47
  go_wp2_with fail
  go_ret
  exact ⟨ret_bool hab.out, rfl⟩

/-- An element of the law's own, in a block of its own. -/
def elV (st : Bool) (x : Nat → Nat) : Array Value := #[.bool st, .int .u64 (x 0), .int .u64 (x 1), .int .u64 (x 2), .int .u64 (x 3)]
def Rep (x : Nat → Nat) (S : UInt8 → Bool) : Prop := (∀ k, k < 4 → x k < 18446744073709551616) ∧ ∀ c : UInt8, S c = (x (c.toNat / 64)).testBit (c.toNat % 64)
def ElB (W : World) (g : Nat) (st : Bool) (S : UInt8 → Bool) : Prop := ∃ x, Blk W g 82 (elV st x) ∧ Rep x S
theorem elV_get (st : Bool) (x : Nat → Nat) (k : Nat) (h : k < 4) : (elV st x)[1 + k]? = some (.int .u64 (x k)) := by
  have : k = 0 ∨ k = 1 ∨ k = 2 ∨ k = 3 := by omega
  rcases this with rfl | rfl | rfl | rfl <;> rfl
theorem elV_set (st : Bool) (x : Nat → Nat) (k v : Nat) (h : k < 4) : (elV st x).setIfInBounds (1 + k) (.int .u64 v) = elV st (fun j => if j = k then v else x j) := by
  have : k = 0 ∨ k = 1 ∨ k = 2 ∨ k = 3 := by omega
  rcases this with rfl | rfl | rfl | rfl <;> rfl
theorem Rep.or {x : Nat → Nat} {S : UInt8 → Bool} (h : Rep x S) (n : Nat) (_ : n < 256) : Rep (fun j => if j = n / 64 then x (n / 64) ||| 2 ^ (n % 64) else x j) (fun c => S c || decide (c.toNat = n)) := by
  refine ⟨fun k hk => ?_, fun c => ?_⟩
  · dsimp only
    split
    · exact Nat.or_lt_two_pow (n := 64) (h.1 _ (by omega)) (bit_lt n)
    · exact h.1 k hk
  · dsimp only
    rw [h.2 c]
    by_cases hc : c.toNat / 64 = n / 64
    · rw [if_pos hc, Nat.testBit_or, hc, Nat.testBit_two_pow]
      congr 1
      exact decide_eq_decide.2 ⟨fun e => by rw [e], fun e => by omega⟩
    · rw [if_neg hc, decide_eq_false (p := c.toNat = n) (fun e => hc (by rw [e])), Bool.or_false]
theorem ElB.same {W W' : World} {g : Nat} {st : Bool} {S : UInt8 → Bool} (h : ElB W g st S) (hb : W'.heap[g]? = W.heap[g]?) : ElB W' g st S := by
  obtain ⟨x, h1, h2⟩ := h
  exact ⟨x, hb.trans h1, h2⟩
theorem ElB.lt {W : World} {g : Nat} {st : Bool} {S : UInt8 → Bool} (h : ElB W g st S) : g < W.heap.size := by
  obtain ⟨x, h1, _⟩ := h
  exact h1.lt
theorem only_alloc {a w : World} {row : Option Nat} (h : a.grownBy w row) (o : Obj) : a.grownBy (w.alloc o) row :=
  ⟨h.os, h.tape, h.output, Nat.le_trans h.size (by simp), fun i hi hne => (Below.heap_alloc w o i (Nat.lt_of_lt_of_le hi h.size)).trans (h.block i hi hne)⟩
theorem only_drew {a w : World} {row : Option Nat} (h : a.grownBy w row) : a.grownBy w.drew row := ⟨h.os, h.tape, h.output, h.size, h.block⟩
theorem only_setCell {a w : World} {g : Nat} (h : a.grownBy w (some g)) (o : Nat) (u : Value) : a.grownBy (w.setCell ⟨g, o, none⟩ u) (some g) :=
  ⟨h.os, h.tape, h.output, by rw [World.size_setCell]; exact h.size, fun i hi hne => (Below.heap_setCell w ⟨g, o, none⟩ u i (by
    rintro rfl
    exact hne rfl)).trans (h.block i hi hne)⟩
theorem only_trans {a b c : World} {row : Option Nat} (h : a.grownBy b row) (k : b.grownBy c row) : a.grownBy c row :=
  ⟨k.os.trans h.os, k.tape.trans h.tape, k.output.trans h.output, Nat.le_trans h.size k.size, fun i hi hne => (k.block i (Nat.lt_of_lt_of_le hi h.size) hne).trans (h.block i hi hne)⟩

set_option maxHeartbeats 2000000 in
set_option maxRecDepth 100000 in
theorem add_any (g : Nat) (st : Bool) (S : UInt8 → Bool) (s : Sp) (w : World) (h : ElB w g st S) :
    Calls Try.prog 49 #[.pointer (some ⟨g, 0, none⟩), .agg #[.int .u8 (s.a.toNat : Int), .int .u8 (s.b.toNat : Int)]] w fun e w' => e = .returned (.tuple #[]) ∧ ElB w' g st (fun c => S c || inSp s c) ∧ w.grownBy w' (some g) := by
  obtain ⟨a, ha⟩ : ∃ a, s.a.toNat = a := ⟨_, rfl⟩
  obtain ⟨b, hb⟩ : ∃ b, s.b.toNat = b := ⟨_, rfl⟩
  have ha2 : a < 256 := by rw [← ha]; exact s.a.toNat_lt
  have hb2 : b < 256 := by rw [← hb]; exact s.b.toNat_lt
  have hsp : Hid (∀ c : UInt8, inSp s c = decide (a ≤ c.toNat ∧ c.toNat ≤ b)) := Lib.hid (fun c => by unfold inSp; rw [ha, hb])
  rw [ha, hb]
  have hg := h.lt
  have hH := Lib.hid h
  clear ha hb h
  go_enter Try.func49, Try.ntmps49
  go_wp2_with fail
  go_loopw [4] (fun s4 wr => ∃ i : Nat, a ≤ i ∧ (i ≤ b + 1 ∨ i = a) ∧ i ≤ 256 ∧ s4 = .int .i64 i ∧ Hid (ElB wr g st (fun c => S c || decide (a ≤ c.toNat ∧ c.toNat < i))) ∧ Hid (w.grownBy wr (some g)) ∧ Hid (Blk wr w.heap.size 87 #[.int .u8 (a : Int), .int .u8 (b : Int)])) (fun s4 _ => 256 - (intOf s4).toNat)
  case atStart =>
    refine ⟨a, Nat.le_refl _, .inr rfl, by omega, rfl, Lib.hid ?_, Lib.hid (only_alloc (World.grownBy.refl _ _) _), Lib.hid (Blk.new _ _ _)⟩
    have e : (fun c : UInt8 => S c || decide (a ≤ c.toNat ∧ c.toNat < a)) = S := by
      funext c; rw [decide_eq_false (by omega), Bool.or_false]
    rw [e]
    exact hH.out.same (Below.heap_alloc _ _ _ hg)
  case round =>
    obtain ⟨i, hi1, hi2, hi3, rfl, hE, hG, hB⟩ := hrel
    have c0 := hB.out.cell 1
    simp only [List.getElem?_toArray, List.getElem?_cons_zero, List.getElem?_cons_succ] at c0
    by_cases hle : i ≤ b
    · have hle' : (i : Int) ≤ (b : Int) := by omega
      have hi4 : i < 256 := by omega
      obtain ⟨x, hx, hR⟩ := hE.out
      obtain ⟨k, hk⟩ : ∃ k, i / 64 = k := ⟨_, rfl⟩
      have hk4 : k < 4 := by omega
      have hkI : (0 : Int) ≤ (k : Int) := by omega
      have hkI4 : (k : Int) < 4 := by omega
      have c1 : wr.cell? ⟨g, 0 + 1 + k, none⟩ = some (.int .u64 (x k)) := by rw [Nat.zero_add, hx.cell]; exact elV_get st x k hk4
      have f1 : wr.frozen? ⟨g, 0 + 1 + k, none⟩ = false := hx.frozen _
      have hx2 := hR.1 k hk4
      have hob := Lib.hid (or_bit (x k) i hx2)
      have hHx := Lib.hid (And.intro hx hR)
      clear hx hR
      have e1 : IntKind.i64.wrap ((i : Int) / 64) = (k : Int) := by rw [IntWalk.i64_in _ (by omega)]; omega
      have e2 : (i : Int).tmod 64 = ((i % 64 : Nat) : Int) := by rw [Int.tmod_eq_emod_of_nonneg (by omega)]; omega
      have e3 : (0 : Int) ≤ ((i % 64 : Nat) : Int) := by omega
      go_wp2_with fail
      have hkH := Lib.hid hk
      clear hk
      go_still_tail 14, (by kernel_rfl)
      go_wp2_with fail
      go_roundw
      case rel =>
        have hSe : (fun c : UInt8 => S c || decide (a ≤ c.toNat ∧ c.toNat < i + 1)) = (fun c : UInt8 => (S c || decide (a ≤ c.toNat ∧ c.toNat < i)) || decide (c.toNat = i)) := by
          funext c
          rw [Bool.or_assoc]
          congr 1
          rw [Bool.eq_iff_iff, Bool.or_eq_true, decide_eq_true_iff, decide_eq_true_iff, decide_eq_true_iff]
          omega
        have hR2 := hHx.out.2.or i hi4
        rw [hkH.out] at hR2
        refine ⟨i + 1, by omega, .inl (by omega), by omega, by go_num, Lib.hid ?_, Lib.hid (only_drew (only_setCell hG.out _ _)), Lib.hid (hB.out.far (p := ⟨g, 1 + k, none⟩) (by show w.heap.size ≠ g; omega) _)⟩
        rw [hSe]
        refine ⟨_, ?_, hR2⟩
        rw [← elV_set st x k _ hk4, hob.out]
        exact hHx.out.1.set_ (1 + k) _
      case measure => simp [intOf]; omega
    · have hle' : ¬ (i : Int) ≤ (b : Int) := by omega
      go_wp2_with fail
      go_end0
      refine ⟨rfl, ?_, hG.out⟩
      have e : (fun c : UInt8 => S c || inSp s c) = (fun c : UInt8 => S c || decide (a ≤ c.toNat ∧ c.toNat < i)) := by
        funext c; rw [hsp.out]; congr 1; exact decide_eq_decide.2 ⟨fun h => ⟨h.1, by omega⟩, fun h => ⟨h.1, by omega⟩⟩
      rw [e]
      exact hE.out

theorem Rep.not {x : Nat → Nat} {S : UInt8 → Bool} (h : Rep x S) : Rep (fun j => 18446744073709551615 - x j) (fun c => !S c) := by
  refine ⟨fun k hk => by have := h.1 k hk; dsimp only; omega, fun c => ?_⟩
  dsimp only
  have h1 := h.1 (c.toNat / 64) (by have := c.toNat_lt; omega)
  rw [h.2 c, show 18446744073709551615 - x (c.toNat / 64) = 2 ^ 64 - (x (c.toNat / 64) + 1) by omega, Nat.testBit_two_pow_sub_succ (by omega), decide_eq_true (by omega), Bool.true_and]

theorem xor_max (x : Nat) (hx : x < 18446744073709551616) : bits BinOp.xor IntKind.u64 (if IntKind.u64.signed = true then -1 else IntKind.u64.max) (x : Int) = ((18446744073709551615 - x : Nat) : Int) := by
  have e : (if IntKind.u64.signed = true then (-1 : Int) else IntKind.u64.max) = ((18446744073709551615 : Nat) : Int) := rfl
  rw [e, u64_xor_nat _ _ (by omega) hx]
  congr 1
  refine Nat.eq_of_testBit_eq fun i => ?_
  rw [Nat.testBit_xor, show 18446744073709551615 - x = 2 ^ 64 - (x + 1) by omega, Nat.testBit_two_pow_sub_succ (by omega), show (18446744073709551615 : Nat) = 2 ^ 64 - 1 by rfl, Nat.testBit_two_pow_sub_one]
  by_cases h : i < 64
  · simp [h]
  · have hxi : x.testBit i = false := Nat.testBit_lt_two_pow (Nat.lt_of_lt_of_le hx (by rw [show (18446744073709551616 : Nat) = 2 ^ 64 by rfl]; exact Nat.pow_le_pow_right (by omega) (by omega)))
    simp [h, hxi]

set_option maxHeartbeats 2000000 in
set_option maxRecDepth 100000 in
theorem turn_any (g : Nat) (st : Bool) (S : UInt8 → Bool) (w : World) (h : ElB w g st S) :
    Calls Try.prog 58 #[.pointer (some ⟨g, 0, none⟩)] w fun e w' => e = .returned (.tuple #[]) ∧ ElB w' g st (fun c => !S c) ∧ w.grownBy w' (some g) := by
  obtain ⟨x, hx, hR⟩ := h
  have hH := Lib.hid (And.intro hx hR)
  clear hx hR
  go_enter Try.func58, Try.ntmps58
  go_wp2_with fail
  go_loopw [3] (fun s3 wr => ∃ k : Nat, k ≤ 4 ∧ s3 = .int .i64 k ∧ Hid (Blk wr g 82 (elV st fun j => if j < k then 18446744073709551615 - x j else x j)) ∧ Hid (w.grownBy wr (some g))) (fun s3 _ => 4 - (intOf s3).toNat)
  case atStart => exact ⟨0, by omega, rfl, Lib.hid (by simpa using hH.out.1), Lib.hid (World.grownBy.refl _ _)⟩
  case round =>
    obtain ⟨k, hk, rfl, hB, hG⟩ := hrel
    by_cases hlt : k < 4
    · have hlt' : (k : Int) < 4 := by omega
      have hkI : (0 : Int) ≤ (k : Int) := by omega
      have c1 : wr.cell? ⟨g, 0 + 1 + k, none⟩ = some (.int .u64 (x k)) := by rw [Nat.zero_add, hB.out.cell, elV_get st _ k hlt, if_neg (by omega)]
      have f1 : wr.frozen? ⟨g, 0 + 1 + k, none⟩ = false := hB.out.frozen _
      have hxk := hH.out.2.1 k hlt
      go_wp2_with fail
      have hxo := Lib.hid (xor_max (x k) hxk)
      go_still_tail 12, (by kernel_rfl)
      go_wp2_with fail
      go_roundw
      case rel =>
        refine ⟨k + 1, by omega, by go_num, Lib.hid ?_, Lib.hid (only_drew (only_setCell hG.out _ _))⟩
        have e : elV st (fun j => if j < k + 1 then 18446744073709551615 - x j else x j) = (elV st fun j => if j < k then 18446744073709551615 - x j else x j).setIfInBounds (1 + k) (.int .u64 ((18446744073709551615 - x k : Nat) : Int)) := by
          rw [elV_set _ _ _ _ hlt]
          congr 1
          funext j
          by_cases h1 : j = k
          · subst h1; simp
          · by_cases h2 : j < k
            · simp [h1, h2]; intro h3; omega
            · simp [h1, h2]; intro h3; omega
        rw [e, hxo.out]
        exact hB.out.set_ (1 + k) _
      case measure => simp [intOf]; omega
    · have hlt' : ¬ (k : Int) < 4 := by omega
      obtain rfl : k = 4 := by omega
      go_wp2_with fail
      go_end0
      refine ⟨rfl, ⟨fun j => if j < 4 then 18446744073709551615 - x j else x j, hB.out, ?_⟩, hG.out⟩
      have := hH.out.2.not
      refine ⟨fun k hk => by dsimp only; rw [if_pos hk]; exact this.1 k hk, fun c => ?_⟩
      dsimp only
      rw [if_pos (by have := c.toNat_lt; omega)]
      exact this.2 c
end Go.Proofs.Ytlaidmjlgjpgcaa
