/- The lengths of a piece, one by one: the iterator. Condition: lengths. -/
import Derived.Test.YtlaidmjlgjpgcaaPatP
namespace Go.Proofs.Ytlaidmjlgjpgcaa
open Go.RowKit Go.Shelf Go.PlainAid
attribute [local go_sem] Oper.semAt_some

def lenAt (n : Nat) (lo : Bool) (j : Nat) : Nat := bif lo then n - j else j
def lens (n : Nat) (lo : Bool) : List Nat := (List.range (n + 1)).map (lenAt n lo)
def encN (n k : Nat) : Array Value := #[.int .i64 ((min k n : Nat) : Int)]
theorem lens_len (n : Nat) (lo : Bool) : (lens n lo).length = n + 1 := by unfold lens; rw [List.length_map, List.length_range]
theorem lens_take {n : Nat} {lo : Bool} {i : Nat} (h : i < n + 1) : (lens n lo).take (i + 1) = (lens n lo).take i ++ [lenAt n lo i] := by
  rw [List.take_add_one]
  unfold lens
  rw [List.getElem?_map, List.getElem?_range h]; rfl
theorem lens_all (n : Nat) (lo : Bool) : (lens n lo).take (n + 1) = lens n lo := List.take_of_length_le (by rw [lens_len]; exact Nat.le_refl _)
/-- What the iterator reads. -/
structure RdN (n1 Bn Bf n : Nat) (lo : Bool) (w : World) : Prop where
  bn : Boxed w Bn 3 (.int .i64 (n : Int))
  bf : Boxed w Bf 4 (.bool lo)
  h1 : Bn < n1
  h2 : Bf < n1
  hn : n1 ≤ w.heap.size
theorem RdN.keep {n1 Bn Bf n : Nat} {lo : Bool} {w w' : World} (h : RdN n1 Bn Bf n lo w) (k : Below n1 w w') : RdN n1 Bn Bf n lo w' :=
  ⟨(k.block _ h.h1).trans h.bn, (k.block _ h.h2).trans h.bf, h.h1, h.h2, Nat.le_trans h.hn k.size⟩

set_option maxRecDepth 100000 in
set_option maxHeartbeats 1000000 in
theorem lengths52_in (d : Nat) (hd : 1 ≤ d) (l Bn Bf n1 n : Nat) (lo : Bool) (hn : n ≤ 1000000) (J Jx : List Nat → World → Prop)
    (hY : ∀ pre x W, J pre W → pre.length < n + 1 → YieldAt Fence.wide (d - 1) Try.prog l (encN n x) W fun e W' =>
      (e = .returned (.bool true) ∧ J (pre ++ [x]) W' ∧ Below n1 W W') ∨ (e = .returned (.bool false) ∧ Jx (pre ++ [x]) W'))
    (W : World) (hR0 : RdN n1 Bn Bf n lo W) (h0 : J [] W) :
    CallsIn Fence.wide d Try.prog 52 #[.func (.yield l) #[] #[], .pointer (some ⟨Bn, 0, none⟩), .pointer (some ⟨Bf, 0, none⟩)] W fun e W' => (∃ v, e = .returned v) ∧
      ((∃ ys, ys = lens n lo ∧ J ys W') ∨ (∃ pre, pre <+: lens n lo ∧ Jx pre W')) := by
  refine callsIn_of_wp Try.func52 rfl trivial ?_ rfl
  simp only [Try.ntmps52, List.size_toArray, List.length_cons, List.length_nil, Nat.reduceAdd, Nat.reduceSub, Array.replicate_succ, Array.replicate_zero, List.push_toArray, List.append_toArray, List.nil_append, List.cons_append]
  have ca := hR0.bn.cell
  have hRH0 := Lib.hid hR0
  have hpf : Hid (∀ i, (lens n lo).take i <+: lens n lo) := Lib.hid (fun i => List.take_prefix _ _)
  clear hR0
  gi_wp2
  gi_loopw [7] (fun s7 wr => ∃ i : Nat, i ≤ n + 1 ∧ s7 = .int .i64 i ∧ Hid (RdN n1 Bn Bf n lo wr) ∧ Hid (J ((lens n lo).take i) wr)) (fun s7 _ => n + 1 - (intOf s7).toNat)
  case atStart => exact ⟨0, Nat.zero_le _, rfl, hRH0, Lib.hid h0⟩
  case round =>
    obtain ⟨i, hi, rfl, hR, hJ⟩ := hrel
    clear ca hRH0 h0
    have ca := hR.out.bn.cell
    have cf := hR.out.bf.cell
    by_cases hlt : i < n + 1
    · have hlt' : (i : Int) < (n : Int) + 1 := by omega
      have hst := Lib.hid (lens_take (n := n) (lo := lo) hlt)
      have hll : Hid (((lens n lo).take i).length < n + 1) := Lib.hid (by rw [List.length_take, lens_len]; omega)
      cases lo
      · obtain ⟨fn, tmps, assign, body, hy, hYR⟩ := hY _ i wr hJ.out hll.out
        have hYH := Lib.hid hYR
        unfold encN at hy
        rw [Nat.min_eq_left (by omega)] at hy
        clear hYR
        gi_wp2
        refine hYH.out.mono ?_
        rintro e W3 (⟨rfl, hJ3, hk3⟩ | ⟨rfl, hJx3⟩)
        · have hJ3H := Lib.hid hJ3
          have hR3 := Lib.hid (hR.out.keep hk3)
          clear hJ3 hk3
          gi_wp2
          go_roundw
          case rel => exact ⟨i + 1, by omega, by go_num, hR3, Lib.hid (by rw [hst.out]; exact hJ3H.out)⟩
          case measure => simp [intOf]; omega
        · have hJxH := Lib.hid hJx3
          clear hJx3
          gi_wp2
          refine bodyPost_ret (results_none rfl _ _ _) rfl ?_
          exact ⟨⟨_, rfl⟩, .inr ⟨_, hpf.out (i + 1), by rw [hst.out]; exact hJxH.out⟩⟩
      · have e1 : Hid (((n : Int) - (i : Int)) = ((n - i : Nat) : Int)) := Lib.hid (by omega)
        obtain ⟨fn, tmps, assign, body, hy, hYR⟩ := hY _ (n - i) wr hJ.out hll.out
        have hYH := Lib.hid hYR
        unfold encN at hy
        rw [Nat.min_eq_left (by omega), ← e1.out] at hy
        clear hYR
        gi_wp2
        refine hYH.out.mono ?_
        rintro e W3 (⟨rfl, hJ3, hk3⟩ | ⟨rfl, hJx3⟩)
        · have hJ3H := Lib.hid hJ3
          have hR3 := Lib.hid (hR.out.keep hk3)
          clear hJ3 hk3
          gi_wp2
          go_roundw
          case rel => exact ⟨i + 1, by omega, by go_num, hR3, Lib.hid (by rw [hst.out]; exact hJ3H.out)⟩
          case measure => simp [intOf]; omega
        · have hJxH := Lib.hid hJx3
          clear hJx3
          gi_wp2
          refine bodyPost_ret (results_none rfl _ _ _) rfl ?_
          exact ⟨⟨_, rfl⟩, .inr ⟨_, hpf.out (i + 1), by rw [hst.out]; exact hJxH.out⟩⟩
    · have hlt' : ¬ (i : Int) < (n : Int) + 1 := by omega
      have hin : Hid ((lens n lo).take i = lens n lo) := Lib.hid (by rw [show i = n + 1 by omega]; exact lens_all n lo)
      gi_wp2
      go_end0
      exact ⟨⟨_, rfl⟩, .inl (by have := hJ.out; rw [hin.out] at this; exact this)⟩

theorem lengths_any (n : Nat) (lo : Bool) (w : World) : Calls Try.prog 37 #[.int .i64 (n : Int), .bool lo] w fun e w' => e = .returned (.func (.func 52) #[] #[.pointer (some ⟨w.heap.size, 0, none⟩), .pointer (some ⟨w.heap.size + 1, 0, none⟩)]) ∧ w' = (w.alloc (.cells #[.int .i64 (n : Int)] 3)).alloc (.cells #[.bool lo] 4) := by
  go_enter Try.func37, Try.ntmps37
  go_wp2
  go_ret
  exact ⟨rfl, rfl⟩
theorem lengths_stops (d : Nat) (hd : 1 ≤ d) (Bn Bf n1 n : Nat) (lo : Bool) (hn : n ≤ 1000000) (w : World) (hR : RdN n1 Bn Bf n lo w) (h1 : n1 ≤ w.heap.size) :
    SeqStopsK Fence.wide d Try.prog 52 #[.pointer (some ⟨Bn, 0, none⟩), .pointer (some ⟨Bf, 0, none⟩)] (encN n) (Below n1) (fun xs => xs = lens n lo) (fun pre => pre <+: lens n lo) (n + 1) w := by
  intro l J Jx W hW _ _ hY h0
  exact lengths52_in d hd l Bn Bf n1 n lo hn J Jx hY W (hR.keep (hW.mono h1)) h0
end Go.Proofs.Ytlaidmjlgjpgcaa
