/- The iterator over the two rows, over a copy of its own. Condition: the rows lie as stated. -/
import Derived.Test.YtklepnldoajghaaVarG
import Derived.Shelf.Abstract
import Derived.Shelf.RegionOpen
import Derived.OwnWalkIn
import Derived.TacticsInMore
import Derived.LoopNIn
import Derived.LoopIn
namespace Go.Proofs.Ytklepnldoajghaa
open Go.RowKit Go.Shelf
attribute [local go_sem] Oper.semAt_some

abbrev encV (x : ByteArray × Vb) : Array Value := #[.string x.1, .agg #[.string x.2.val, .bool x.2.st, .bool x.2.ex, .bool x.2.ro]]
def noK {α : Type} (_ : List α) (_ : α) (_ _ : World) : Prop := True

set_option maxHeartbeats 400000 in
theorem all_any (p : Option Addr) (w : World) : Calls Try.prog 42 #[.pointer p] w fun e w' => e = .returned (.func (.func 54) #[] #[.pointer (some ⟨w.heap.size, 0, none⟩)]) ∧ w' = w.alloc (.cells #[.pointer p] 84) := by
  go_enter Try.func42, Try.ntmps42
  go_wp2
  go_ret
  exact ⟨rfl, rfl⟩

theorem ks_at {L : Vl} {k : Nat} {x : ByteArray × Vb} (h : L[k]? = some x) : (ks L)[k]? = some x.1 := by unfold ks; rw [List.getElem?_map, h]; rfl
theorem vs_at {L : Vl} {k : Nat} {x : ByteArray × Vb} (h : L[k]? = some x) : (vs L)[k]? = some x.2 := by unfold vs; rw [List.getElem?_map, h]; rfl
theorem take_snoc {α : Type} {l : List α} {k : Nat} {x : α} (h : l[k]? = some x) : l.take (k + 1) = l.take k ++ [x] := by
  rw [List.take_add_one, h]; rfl

/-- The blocks of a value's row. -/
def rowOf (v : Value) : List Nat := match v.ownBlock with | some g => [g] | none => []
theorem mem_rowOf {v : Value} {g : Nat} (h : v.ownBlock = some g) : g ∈ rowOf v := by unfold rowOf; rw [h]; exact List.mem_singleton.2 rfl
theorem of_rowOf {v : Value} {g : Nat} (h : g ∈ rowOf v) : v.ownBlock = some g := by
  unfold rowOf at h
  cases e : v.ownBlock with
  | none => rw [e] at h; cases h
  | some x => rw [e] at h; rw [List.mem_singleton.1 h]

set_option maxRecDepth 100000 in
set_option maxHeartbeats 2000000 in
theorem all54_in (n : Nat) (hn : 1 ≤ n) (l Bn n₀ p : Nat) (L : Vl) (kv vv : Value) (J Jx : List Nat → Vl → World → Prop) (W : World)
    (hJa : Abide J)
    (hY : ∀ T pre x W1, pre ++ [x] <+: L → J T pre W1 → YieldAt Fence.wide (n - 1) Try.prog l (encV x) W1 fun e W' =>
      (e = .returned (.bool true) ∧ J T (pre ++ [x]) W' ∧ Keeps T W1 W' ∧ noK pre x W1 W') ∨ (e = .returned (.bool false) ∧ Jx T (pre ++ [x]) W' ∧ Keeps T W1 W'))
    (hBn : W.cell? ⟨Bn, 0, none⟩ = some (.pointer (some ⟨p, 0, none⟩))) (hO : OrdAt n₀ W p L kv vv) (h0 : J [] [] W) :
    CallsIn Fence.wide n Try.prog 54 #[.func (.yield l) #[] #[], .pointer (some ⟨Bn, 0, none⟩)] W fun e W' => (∃ v, e = .returned v) ∧
      ((∃ T xs, xs = L ∧ J T xs W') ∨ (∃ T pre, pre <+: L ∧ Jx T pre W')) := by
  have hOH := Lib.hid hO
  have hl64 := hO.len
  have hJaH := Lib.hid hJa
  have h0H := Lib.hid h0
  clear hO hJa h0
  refine callsIn_of_wp Try.func54 rfl trivial ?_ rfl
  simp only [Try.ntmps54, List.size_toArray, List.length_cons, List.length_nil, Nat.reduceAdd, Nat.reduceSub, Array.replicate_succ, Array.replicate_zero, List.push_toArray, List.append_toArray, List.nil_append, List.cons_append]
  gi_wp2_with (refine ⟨trivial, ?_⟩; gi_at_call 39; refine (callsIn_wide.2 (copy_any W hOH.out)).mono ?_; rintro e W2 ⟨k', v', rfl, hk', hv', hb'⟩; obtain ⟨ka, kc, rfl⟩ := ownsRow_slice hk'; obtain ⟨va, vc, rfl⟩ := ownsRow_slice hv'; have hk'H := Lib.hid hk'; have hv'H := Lib.hid hv'; have hb'H := Lib.hid hb'; clear hk' hv' hb')
  obtain ⟨K', hK'⟩ : ∃ K', Value.slice ka (ks L).length kc = K' := ⟨_, rfl⟩
  obtain ⟨V', hV'⟩ : ∃ V', Value.slice va (vs L).length vc = V' := ⟨_, rfl⟩
  obtain ⟨T, hT⟩ : ∃ T, W2.heap.size :: (rowOf K' ++ rowOf V') = T := ⟨_, rfl⟩
  have hW23 : Below W2.heap.size W2 (W2.alloc (.cells #[K', V'] 63)) := (Below.refl _ _).alloc (Nat.le_refl _) _
  have hJ0 : J T [] (W2.alloc (.cells #[K', V'] 63)) := by
    have hb := (hb'H.out).trans (hW23.mono hb'H.out.size)
    refine hJaH.out _ _ _ _ _ h0H.out ⟨hb.os, hb.tape, hb.output, hb.size, fun k hk _ => hb.block k hk, fun k hk => .inr ?_⟩
    have hsz : (W2.alloc (.cells #[K', V'] 63)).heap.size = W2.heap.size + 1 := by simp
    rw [← hT] at hk
    rcases List.mem_cons.1 hk with rfl | hk
    · exact ⟨hb'H.out.size, by omega⟩
    · rcases List.mem_append.1 hk with hk | hk
      · rw [← hK'] at hk
        have h := hk'H.out.lt k (of_rowOf hk)
        exact ⟨h.1, by omega⟩
      · rw [← hV'] at hk
        have h := hv'H.out.lt k (of_rowOf hk)
        exact ⟨h.1, by omega⟩
  have hR0 : Blk (W2.alloc (.cells #[K', V'] 63)) W2.heap.size 63 #[K', V'] := Blk.new W2 63 _
  have hk3 : (W2.alloc (.cells #[K', V'] 63)).ownsRow W.heap.size 9 1 K' (ks L).length (flat kcs (ks L)) := by rw [← hK']; exact hk'H.out.alloc _
  have hv3 : (W2.alloc (.cells #[K', V'] 63)).ownsRow W.heap.size 68 4 V' (vs L).length (flat vcs (vs L)) := by rw [← hV']; exact hv'H.out.alloc _
  have hKk : ∀ (A B : World), Keeps T A B → A.ownsRow W.heap.size 9 1 K' (ks L).length (flat kcs (ks L)) → B.ownsRow W.heap.size 9 1 K' (ks L).length (flat kcs (ks L)) := fun A B hk h => row_keep h (fun g hg => hk.block g (by rw [← hT]; exact List.mem_cons_of_mem _ (List.mem_append_left _ (mem_rowOf hg))) (row_lt h hg))
  have hKv : ∀ (A B : World), Keeps T A B → A.ownsRow W.heap.size 68 4 V' (vs L).length (flat vcs (vs L)) → B.ownsRow W.heap.size 68 4 V' (vs L).length (flat vcs (vs L)) := fun A B hk h => row_keep h (fun g hg => hk.block g (by rw [← hT]; exact List.mem_cons_of_mem _ (List.mem_append_right _ (mem_rowOf hg))) (row_lt h hg))
  have hKm : ∀ (A B : World), Keeps T A B → Blk A W2.heap.size 63 #[K', V'] → Blk B W2.heap.size 63 #[K', V'] := fun A B hk h => (hk.block _ (by rw [← hT]; exact List.mem_cons_self ..) h.lt).trans h
  obtain ⟨m3, hm3⟩ : ∃ m3, W2.heap.size = m3 := ⟨_, rfl⟩
  obtain ⟨N, hN⟩ : ∃ N, (ks L).length = N := ⟨_, rfl⟩
  have hN1 : L.length = N := by rw [← ks_len]; exact hN
  have hN2 : (vs L).length = N := by rw [vs_len]; exact hN1
  rw [hm3] at hR0 hKm
  have hK'H := Lib.hid hK'
  have hV'H := Lib.hid hV'
  have hR0H := Lib.hid hR0
  have hk3H := Lib.hid hk3
  have hv3H := Lib.hid hv3
  have hJ0H := Lib.hid hJ0
  have hKkH := Lib.hid hKk
  have hKvH := Lib.hid hKv
  have hKmH := Lib.hid hKm
  have hNH := Lib.hid hN
  rw [hm3, hN, hN2]
  rw [hN] at hK'
  rw [hN2] at hV'
  gi_loopw [11] (fun s11 wr => ∃ k : Nat, k ≤ N ∧ s11 = .int .i64 k ∧ Hid (J T (L.take k) wr) ∧ Hid (Blk wr m3 63 #[K', V']) ∧ Hid (wr.ownsRow W.heap.size 9 1 K' (ks L).length (flat kcs (ks L))) ∧ Hid (wr.ownsRow W.heap.size 68 4 V' (vs L).length (flat vcs (vs L)))) (fun s11 _ => N - (intOf s11).toNat)
  case atStart =>
    rw [hK', hV']
    exact ⟨0, Nat.zero_le _, rfl, hJ0H, hR0H, hk3H, hv3H⟩
  case round =>
    obtain ⟨k, hk, rfl, hJk, hRk, hkk, hvk⟩ := hrel
    by_cases hlt : k < N
    · obtain ⟨x, hx⟩ : ∃ x, L[k]? = some x := ⟨_, List.getElem?_eq_getElem (by omega)⟩
      have htk := Lib.hid (take_snoc hx)
      obtain ⟨gk, ck, e1, _, hck, _, _⟩ := row_at kcs_len hkk.out (ks_at hx)
      obtain ⟨gv, cv, e2, _, hcv, _, _⟩ := row_at vcs_len hvk.out (vs_at hx)
      rw [hN] at e1
      rw [hN2] at e2
      obtain ⟨rfl, rfl⟩ : ka = some ⟨gk, 0, none⟩ ∧ kc = ck := by rw [← hK'] at e1; simpa using e1
      obtain ⟨rfl, rfl⟩ : va = some ⟨gv, 0, none⟩ ∧ vc = cv := by rw [← hV'] at e2; simpa using e2
      have ck0 := hck 0 _ rfl
      rw [Nat.mul_one, Nat.add_zero] at ck0
      have c0 := hcv 0 _ rfl
      have c1 := hcv 1 _ rfl
      have c2 := hcv 2 _ rfl
      have c3 := hcv 3 _ rfl
      rw [Nat.add_zero] at c0
      obtain ⟨xk, ⟨xv, xs, xe, xr⟩⟩ := x
      have r1 : wr.cell? ⟨m3, 1, none⟩ = some (Value.slice (some ⟨gv, 0, none⟩) N vc) := by rw [hV']; exact hRk.out.cell 1
      obtain ⟨fn, tmps, assign, body, hy, hR⟩ := hY T (L.take k) (xk, ⟨xv, xs, xe, xr⟩) wr (by rw [← take_snoc hx]; exact List.take_prefix _ _) hJk.out
      dsimp only [encV] at hy
      have hRH := Lib.hid hR
      have hxH := Lib.hid hx
      have hlt' : (k : Int) < (N : Int) := by omega
      have hkkH := Lib.hid hkk
      have hvkH := Lib.hid hvk
      have hRkH := Lib.hid hRk
      have hpre : Hid (L.take (k + 1) <+: L) := Lib.hid (List.take_prefix _ _)
      clear hR hck hcv hx e1 e2 hK' hV' hY hkk hvk hRk hJk
      gi_wp2
      refine hRH.out.mono ?_
      rintro e W5 (⟨rfl, hJ5, hk5, _⟩ | ⟨rfl, hJx5, hk5⟩)
      · have hJ5H := Lib.hid hJ5
        have hk5H := Lib.hid hk5
        clear hJ5 hk5
        gi_wp2
        go_roundw
        case rel => exact ⟨k + 1, by omega, by go_num, Lib.hid (by rw [htk.out]; exact hJ5H.out), Lib.hid (hKmH.out _ _ hk5H.out hRkH.out.out), Lib.hid (hKkH.out _ _ hk5H.out hkkH.out.out), Lib.hid (hKvH.out _ _ hk5H.out hvkH.out.out)⟩
        case measure => simp [intOf]; omega
      · have hJx' := Lib.hid hJx5
        clear hJx5 hk5
        gi_wp2
        refine bodyPost_ret (results_none rfl _ _ _) rfl ?_
        exact ⟨⟨_, rfl⟩, .inr ⟨T, _, hpre.out, by rw [htk.out]; exact hJx'.out⟩⟩
    · obtain rfl : k = N := by omega
      have hall : Hid (L.take k = L) := Lib.hid (by rw [← hN1]; exact List.take_length)
      clear hY hK' hV'
      gi_wp2
      go_end0
      exact ⟨⟨_, rfl⟩, .inl ⟨T, L, rfl, by have h := hJk.out; rw [hall.out] at h; exact h⟩⟩

theorem all_seq (n : Nat) (hn : 1 ≤ n) (Bn n₀ p : Nat) (L : Vl) (kv vv : Value) (w : World) (hB0 : Bn < w.heap.size) (hBn : w.cell? ⟨Bn, 0, none⟩ = some (.pointer (some ⟨p, 0, none⟩))) (hO : OrdAt n₀ w p L kv vv) :
    SeqT Fence.wide n Try.prog 54 #[.pointer (some ⟨Bn, 0, none⟩)] encV noK (fun xs => xs = L) (fun pre => pre <+: L) w := by
  intro l J Jx W hW hJa _ hY h0
  have hp : p < w.heap.size := block_of_cell hO.c0
  exact all54_in n hn l Bn n₀ p L kv vv J Jx W hJa hY ((hW.cell (p := ⟨Bn, 0, none⟩) hB0).trans hBn)
    ⟨(hW.cell (p := ⟨p, 0, none⟩) hp).trans hO.c0, (hW.cell (p := ⟨p, 1, none⟩) hp).trans hO.c1, row_beneath hO.keys hW, row_beneath hO.vals hW, hO.srt, hO.len⟩ h0
end Go.Proofs.Ytklepnldoajghaa
