/- The iterator All of a table, and Free. Condition: the table's cells are as stated. -/
import Derived.RangeFuncNested
import Derived.RangeFuncBound
import Derived.RangeFuncCalls
import Derived.RangeFuncLeaves
import Derived.RangeFuncFrom
import Derived.Shelf.Abstract
import Derived.Shelf.RegionOpen
import Derived.WalkKit
import Derived.OwnWalkIn
import Derived.TacticsInMore
import Derived.LoopNIn
import Derived.LoopIn
import Derived.Test.YtifoanmoadogoaaTabB
namespace Go.Proofs.Ytifoanmoadogoaa
open Go.RowKit Go.Shelf
attribute [local go_sem] Oper.semAt_some

/-- What has come when the slots below k have been gone through. -/
def upto (f : Nat → Sl) : Nat → List (Fin 32 × Int)
  | 0 => []
  | k + 1 => if h : k < 32 then (if (f k).tk then upto f k ++ [(⟨k, h⟩, (f k).x)] else upto f k) else upto f k

theorem upto_len (f : Nat → Sl) (k : Nat) : (upto f k).length ≤ k := by
  induction k with
  | zero => simp [upto]
  | succ k ih =>
    unfold upto
    split
    · split
      · simp; omega
      · omega
    · omega

theorem upto_mono (f : Nat → Sl) {k m : Nat} (h : k ≤ m) : upto f k <+: upto f m := by
  induction m with
  | zero =>
    have : k = 0 := by omega
    rw [this]
    exact List.prefix_refl _
  | succ m ih =>
    by_cases e : k = m + 1
    · subst e; exact List.prefix_refl _
    · refine (ih (by omega)).trans ?_
      rw [upto]
      split
      · split
        · exact List.prefix_append _ _
        · exact List.prefix_refl _
      · exact List.prefix_refl _

theorem upto_yes {f : Nat → Sl} {k : Nat} (h : k < 32) (ht : (f k).tk = true) : upto f (k + 1) = upto f k ++ [(⟨k, h⟩, (f k).x)] := by
  rw [upto, dif_pos h, if_pos ht]
theorem upto_no {f : Nat → Sl} {k : Nat} (ht : (f k).tk = false) : upto f (k + 1) = upto f k := by
  rw [upto]; split
  · rw [if_neg (by rw [ht]; decide)]
  · rfl

abbrev encT (x : Fin 32 × Int) : Array Value := #[.int .i64 (x.1.1 : Nat), .int .i64 x.2]

set_option maxHeartbeats 400000 in
theorem all_any (p : Option Addr) (w : World) : Calls Try.prog 40 #[.pointer p] w fun e w' => e = .returned (.func (.func 53) #[] #[.pointer (some ⟨w.heap.size, 0, none⟩)]) ∧ w' = w.alloc (.cells #[.pointer p] 54) := by
  go_enter Try.func40, Try.ntmps40
  go_wp2
  go_ret
  exact ⟨rfl, rfl⟩

/-- What a round keeps: what lies below n₀, and the block that holds the table's address. -/
def KeepT (n₀ Bn : Nat) (W W' : World) : Prop := Below n₀ W W' ∧ W'.heap[Bn]? = W.heap[Bn]?

theorem keepT_t {n₀ Bn : Nat} {A B C : World} (h : KeepT n₀ Bn A B) (k : KeepT n₀ Bn B C) : KeepT n₀ Bn A C := ⟨h.1.trans k.1, k.2.trans h.2⟩
theorem keepT_b {n₀ Bn : Nat} {w : World} (hn : n₀ ≤ w.heap.size) (hB : Bn < w.heap.size) (W : World) (l : Nat) (o o' : Obj) (hl : w.heap.size ≤ l) (h : W.heap[l]? = some o) (h1 : o.isCells = false) (h2 : o.isWalk = false) : KeepT n₀ Bn W (W.putObj l o') :=
  ⟨belowK_b hn W l o o' hl h h1 h2, World.putObj_heap_other (by omega)⟩

set_option maxRecDepth 100000 in
set_option maxHeartbeats 1000000 in
theorem all53_in (n : Nat) (hn : 1 ≤ n) (l Bn n₀ T : Nat) (f : Nat → Sl) (J Jx : List (Fin 32 × Int) → World → Prop)
    (hY : ∀ pre x W, J pre W → pre.length < 32 → YieldAt Fence.wide (n - 1) Try.prog l (encT x) W fun e W' =>
      (e = .returned (.bool true) ∧ J (pre ++ [x]) W' ∧ KeepT n₀ Bn W W') ∨ (e = .returned (.bool false) ∧ Jx (pre ++ [x]) W'))
    (W : World) (hBn : W.cell? ⟨Bn, 0, none⟩ = some (.pointer (some ⟨T, 0, none⟩))) (hT : TabAt W T f) (hT0 : T < n₀) (h0 : J [] W) :
    CallsIn Fence.wide n Try.prog 53 #[.func (.yield l) #[] #[], .pointer (some ⟨Bn, 0, none⟩)] W fun e W' => (∃ v, e = .returned v) ∧
      ((∃ ys, ys = upto f 32 ∧ J ys W') ∨ (∃ pre, pre <+: upto f 32 ∧ Jx pre W')) := by
  refine callsIn_of_wp Try.func53 rfl trivial ?_ rfl
  simp only [Try.ntmps53, List.size_toArray, List.length_cons, List.length_nil, Nat.reduceAdd, Nat.reduceSub, Array.replicate_succ, Array.replicate_zero, List.push_toArray, List.append_toArray, List.nil_append, List.cons_append]
  gi_wp2
  gi_loopw [5] (fun s5 wr => ∃ k : Nat, k ≤ 32 ∧ s5 = .int .i64 k ∧ wr.cell? ⟨Bn, 0, none⟩ = some (.pointer (some ⟨T, 0, none⟩)) ∧ TabAt wr T f ∧ J (upto f k) wr) (fun s5 _ => 32 - (intOf s5).toNat)
  case atStart => exact ⟨0, by omega, rfl, hBn, hT, h0⟩
  case round =>
    obtain ⟨k, hk, rfl, hb, ht, hJ⟩ := hrel
    have hTH := Lib.hid ht
    have hJH := Lib.hid hJ
    by_cases hk2 : k < 32
    · have hk' : (k : Int) < 32 := by omega
      cases htk : (f k).tk
      · have hs := slot_in k hk2 wr ht
        rw [htk] at hs
        simp only [Bool.false_eq_true, if_false] at hs
        have hs' := Lib.hid hs
        have hno := Lib.hid (upto_no htk)
        clear hs ht hJ htk
        gi_wp2_with (refine ⟨trivial, ?_⟩; gi_at_call 50; refine (callsIn_wide.2 hs'.out).mono ?_; rintro e w' ⟨rfl, rfl⟩)
        refine ⟨fun _ h => (by cases h), ?_⟩
        gi_wp2
        go_roundw
        case rel => exact ⟨k + 1, by omega, by go_num, hb, hTH.out, by rw [hno.out]; exact hJH.out⟩
        case measure => simp [intOf]; omega
      · have hs := slot_in k hk2 wr ht
        rw [htk] at hs
        simp only [if_true] at hs
        have hs' := Lib.hid hs
        have hyes := Lib.hid (upto_yes hk2 htk)
        have c2 := ht.c2 k hk2
        obtain ⟨fn, tmps, assign, body, hy, hR⟩ := hY (upto f k) (⟨k, hk2⟩, (f k).x) wr hJ (by have := upto_len f k; omega)
        dsimp only [encT] at hy
        have hRH := Lib.hid hR
        have hpre := Lib.hid (upto_mono f (show k + 1 ≤ 32 by omega))
        clear hs ht hJ htk hR
        gi_wp2_with (refine ⟨trivial, ?_⟩; gi_at_call 50; refine (callsIn_wide.2 hs'.out).mono ?_; rintro e w' ⟨rfl, rfl⟩)
        refine hRH.out.mono ?_
        rintro e W3 (⟨rfl, hJ3, hk3⟩ | ⟨rfl, hJx3⟩)
        · have hb3 := (cell_of_heap (a := ⟨Bn, 0, none⟩) hk3.2).trans hb
          have hT3 := Lib.hid (hTH.out.keep (hk3.1.block T hT0))
          have hJ3' := Lib.hid hJ3
          clear hJ3 hk3
          gi_wp2
          go_roundw
          case rel => exact ⟨k + 1, by omega, by go_num, hb3, hT3.out, by rw [hyes.out]; exact hJ3'.out⟩
          case measure => simp [intOf]; omega
        · have hJx' := Lib.hid hJx3
          clear hJx3
          gi_wp2
          refine bodyPost_ret (results_none rfl _ _ _) rfl ?_
          exact ⟨⟨_, rfl⟩, .inr ⟨_, by have := hpre.out; rw [hyes.out] at this; exact this, hJx'.out⟩⟩
    · obtain rfl : k = 32 := by omega
      gi_wp2
      go_end0
      exact ⟨⟨_, rfl⟩, .inl ⟨_, rfl, hJ⟩⟩

theorem all_stops (n : Nat) (hn : 1 ≤ n) (Bn n₀ T : Nat) (f : Nat → Sl) (w : World) (hnw : n₀ ≤ w.heap.size) (hB0 : Bn < w.heap.size) (hBn : w.cell? ⟨Bn, 0, none⟩ = some (.pointer (some ⟨T, 0, none⟩))) (hT0 : T < n₀) (hT : TabAt w T f) :
    SeqStopsK Fence.wide n Try.prog 53 #[.pointer (some ⟨Bn, 0, none⟩)] encT (KeepT n₀ Bn) (fun xs => xs = upto f 32) (fun pre => pre <+: upto f 32) 32 w := by
  intro l J Jx W hW _ _ hY h0
  exact all53_in n hn l Bn n₀ T f J Jx hY W ((hW.cell (p := ⟨Bn, 0, none⟩) hB0).trans hBn) (hT.keep (hW.block T (by omega))) hT0 h0
end Go.Proofs.Ytifoanmoadogoaa
