/- The parameters: SetArgs, Args, Shift, and a copy of variables and parameters. Condition: the variables lie as stated. -/
import Derived.Test.YtklepnldoajghaaVarK
import Derived.Test.YtklepnldoajghaaVarF
namespace Go.Proofs.Ytklepnldoajghaa
open Go.RowKit Go.PlainAid
attribute [local go_sem] Oper.semAt_some

/-- Texts that stand in memory. -/
def TxAt (w : World) (v : Value) (K : List ByteArray) : Prop :=
  (v = .slice none 0 0 ∧ K = []) ∨ ∃ b off c, v = .slice (some ⟨b, off, none⟩) K.length c ∧ K.length ≤ c ∧ ∀ j u, (flat kcs K)[j]? = some u → w.cell? ⟨b, off + j, none⟩ = some u
theorem TxAt.slice {w : World} {v : Value} {K : List ByteArray} (h : TxAt w v K) : ∃ a c, v = .slice a K.length c := by
  rcases h with ⟨rfl, rfl⟩ | ⟨b, off, c, rfl, _⟩
  · exact ⟨_, _, rfl⟩
  · exact ⟨_, _, rfl⟩
theorem TxAt.beneath {w w1 : World} {v : Value} {K : List ByteArray} (h : TxAt w v K) (hb : Below w.heap.size w w1) : TxAt w1 v K := by
  rcases h with h | ⟨b, off, c, e, hc, h⟩
  · exact .inl h
  · exact .inr ⟨b, off, c, e, hc, fun j u hj => (hb.cell (p := ⟨b, off + j, none⟩) (block_of_cell (h j u hj))).trans (h j u hj)⟩
theorem TxAt.of_row {n₀ : Nat} {w : World} {v : Value} {K : List ByteArray} (h : w.ownsRow n₀ 9 1 v K.length (flat kcs K)) : TxAt w v K := by
  rcases h.2 with ⟨rfl, h0⟩ | ⟨g, cap, cur, rfl, _, _, hc, _⟩
  · exact .inl ⟨rfl, List.eq_nil_of_length_eq_zero h0⟩
  · exact .inr ⟨g, 0, cap, rfl, hc, row_cells h⟩

theorem clone_t {K : List ByteArray} {v : Value} (w : World) (h : TxAt w v K) (hlen : K.length ≤ 100000) :
    Calls Try.prog 38 #[v] w fun e w' => ∃ v', e = .returned v' ∧ w'.ownsRow w.heap.size 9 1 v' K.length (flat kcs K) ∧ Below w.heap.size w w' := by
  rcases h with ⟨rfl, rfl⟩ | ⟨b, off, c, rfl, _, h⟩
  · refine (Try.slices_Clone_nil 0 0 w).mono ?_
    rintro e w' ⟨rfl, rfl⟩
    exact ⟨_, rfl, World.ownsRow_nil _ _ _ _, Below.refl _ _⟩
  · exact clone_at b off K.length c w rfl h hlen

/-- How a call that may turn the parameters ends. -/
def EndsA (n₀ p : Nat) (L : Vl) (A : List ByteArray) (kv vv : Value) (w w' : World) : Prop :=
  ∃ av', VarsAt n₀ w' p L A kv vv av' ∧ Turned p (.slice none 0 0) (.slice none 0 0) w w' ∧ (∀ g, av'.ownBlock = some g → w.heap.size ≤ g)

theorem EndsA.store {n₀ p : Nat} {L : Vl} {A A' : List ByteArray} {kv vv av v' : Value} {w w1 : World} (h : VarsAt n₀ w p L A kv vv av) (hn0 : n₀ ≤ w.heap.size) (hA : A'.length ≤ 200)
    (hr : w1.ownsRow w.heap.size 9 1 v' A'.length (flat kcs A')) (hb : Below w.heap.size w w1) : EndsA n₀ p L A' kv vv w (w1.setCell ⟨p, 2, none⟩ v') := by
  have hp := h.blk.lt
  have h1 := h.beneath hb
  have hfar : ∀ g, g ≠ p → (w1.setCell ⟨p, 2, none⟩ v').heap[g]? = w1.heap[g]? := fun g hg => Below.heap_setCell _ _ _ g hg
  have hrow : ∀ {e : TypeId} {n : Nat} {v : Value} {xs : List Value} {k : Nat}, w1.ownsRow n₀ e k v n xs → 65 ≠ e → (w1.setCell ⟨p, 2, none⟩ v').ownsRow n₀ e k v n xs := fun {e n v xs k} hr he =>
    row_keep hr (fun g hg => hfar g (fun e2 => by subst e2; exact row_off h1.blk he hr hg.symm))
  have hv' := row_weak hr hn0
  refine ⟨v', ⟨h1.blk.set_ 2 _, h1.base, hrow h1.keys (by decide), hrow h1.vals (by decide), hrow hv' (by decide), fun g hg e => ?_, h1.srt, h1.len, hA⟩, ⟨hb.os, hb.tape, hb.output, ?_, fun k hk hkp _ _ => (hfar k hkp).trans (hb.block k hk)⟩, fun g hg => (hr.lt g hg).1⟩
  · have a := row_lt h.keys hg
    have b := (hr.lt g e).1
    omega
  · have := hb.size
    simpa [World.setCell] using this

set_option maxHeartbeats 1000000 in
theorem setArgsNil_any (v : Value) (w : World) : Calls Try.prog 16 #[.pointer none, v] w fun e w' => e = .returned (.int .i64 22) ∧ w' = w := by
  go_enter Try.func16, Try.ntmps16
  go_wp2_with fail
  go_ret
  exact ⟨rfl, rfl⟩

set_option maxHeartbeats 1000000 in
theorem shiftNil_any (n : Int) (w : World) : Calls Try.prog 18 #[.pointer none, .int .i64 n] w fun e w' => e = .returned (.int .i64 22) ∧ w' = w := by
  go_enter Try.func18, Try.ntmps18
  go_wp2_with fail
  go_ret
  exact ⟨rfl, rfl⟩

set_option maxHeartbeats 1000000 in
theorem argsNil_any (w : World) : Calls Try.prog 26 #[.pointer none] w fun e w' => e = .returned (.slice none 0 0) ∧ w' = w := by
  go_enter Try.func26, Try.ntmps26
  go_wp2_with fail
  go_ret
  exact ⟨rfl, rfl⟩

set_option maxHeartbeats 1000000 in
theorem copyNil_any (w : World) : Calls Try.prog 20 #[.pointer none] w fun e w' => e = .returned (.pointer none) ∧ w' = w := by
  go_enter Try.func20, Try.ntmps20
  go_wp2_with fail
  go_ret
  exact ⟨rfl, rfl⟩

set_option maxHeartbeats 1000000 in
theorem unsetNil_any (x : ByteArray) (w : World) : Calls Try.prog 12 #[.pointer none, .string x] w fun e w' => e = .returned (.int .i64 22) ∧ w' = w := by
  go_enter Try.func12, Try.ntmps12
  go_wp2_with fail
  go_ret
  exact ⟨rfl, rfl⟩

set_option maxHeartbeats 1000000 in
theorem setArgs_big {p n c : Nat} {a : Option Addr} (w : World) (hn : 200 < n) (hm : n ≤ maxLen) : Calls Try.prog 16 #[.pointer (some ⟨p, 0, none⟩), .slice a n c] w fun e w' => e = .returned (.int .i64 66) ∧ w' = w := by
  unfold maxLen at hm
  have hn' : (200 : Int) < n := by omega
  go_enter Try.func16, Try.ntmps16
  go_wp2_with fail
  go_ret
  exact ⟨rfl, rfl⟩

set_option maxHeartbeats 1000000 in
theorem setArgs_any {n₀ p : Nat} {L : Vl} {A K : List ByteArray} {kv vv av v : Value} (w : World) (h : VarsAt n₀ w p L A kv vv av) (hn0 : n₀ ≤ w.heap.size) (hv : TxAt w v K) (hK : K.length ≤ 200) :
    Calls Try.prog 16 #[.pointer (some ⟨p, 0, none⟩), v] w fun e w' => e = .returned (.int .i64 0) ∧ EndsA n₀ p L K kv vv w w' := by
  have hcall := Lib.hid (clone_t w hv (by omega))
  obtain ⟨a, c, rfl⟩ := hv.slice
  have hH := Lib.hid h
  have hn0H := Lib.hid hn0
  have hK' : ¬ (200 : Int) < K.length := by omega
  clear h hn0 hv
  go_enter Try.func16, Try.ntmps16
  go_wp2_with (go_at_call 38; refine hcall.out.mono ?_; rintro e w1 ⟨v', rfl, hr', hb'⟩; obtain ⟨a1, c1, rfl⟩ := ownsRow_slice hr'; have q0 : w1.cell? ⟨p, 2, none⟩ = some av := (blk_beneath hH.out.blk hb').cell 2; have q1 : w1.frozen? ⟨p, 2, none⟩ = false := (blk_beneath hH.out.blk hb').frozen 2; have hrH := Lib.hid hr'; have hbH := Lib.hid hb'; clear hr' hb')
  go_ret
  exact ⟨rfl, .store hH.out hn0H.out hK hrH.out hbH.out⟩

set_option maxHeartbeats 1000000 in
theorem Args_any {n₀ p : Nat} {L : Vl} {A : List ByteArray} {kv vv av : Value} (w : World) (h : VarsAt n₀ w p L A kv vv av) :
    Calls Try.prog 26 #[.pointer (some ⟨p, 0, none⟩)] w fun e w' => ∃ v', e = .returned v' ∧ w'.ownsRow w.heap.size 9 1 v' A.length (flat kcs A) ∧ Below w.heap.size w w' := by
  have hcall := Lib.hid (clone_t w (.of_row h.args) (by have := h.alen; omega))
  obtain ⟨a, c, rfl⟩ := ownsRow_slice h.args
  have h2 : w.cell? ⟨p, 2, none⟩ = some _ := h.blk.cell 2
  clear h
  go_enter Try.func26, Try.ntmps26
  go_wp2_with (go_at_call 38; refine hcall.out.mono ?_; rintro e w1 ⟨v', rfl, hr', hb'⟩; obtain ⟨a1, c1, rfl⟩ := ownsRow_slice hr'; have hrH := Lib.hid hr'; have hbH := Lib.hid hb'; clear hr' hb')
  go_ret
  exact ⟨_, rfl, hrH.out, hbH.out⟩

set_option maxHeartbeats 1000000 in
theorem shift_no {n₀ p : Nat} {L : Vl} {A : List ByteArray} {kv vv av : Value} (n : Int) (w : World) (h : VarsAt n₀ w p L A kv vv av) (hn : n < 0 ∨ (A.length : Int) < n) :
    Calls Try.prog 18 #[.pointer (some ⟨p, 0, none⟩), .int .i64 n] w fun e w' => e = .returned (.int .i64 22) ∧ w' = w := by
  obtain ⟨a, c, rfl⟩ := ownsRow_slice h.args
  have h2 : w.cell? ⟨p, 2, none⟩ = some _ := h.blk.cell 2
  clear h
  by_cases h0 : n < 0
  · clear hn
    go_enter Try.func18, Try.ntmps18
    go_wp2_with fail
    go_ret
    exact ⟨rfl, rfl⟩
  · have h1 : (A.length : Int) < n := by omega
    clear hn
    go_enter Try.func18, Try.ntmps18
    go_wp2_with fail
    go_ret
    exact ⟨rfl, rfl⟩

end Go.Proofs.Ytklepnldoajghaa
