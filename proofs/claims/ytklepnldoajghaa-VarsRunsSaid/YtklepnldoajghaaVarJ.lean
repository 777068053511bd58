/- The iterator All: an iterator that ranges over an iterator. Condition: the variables lie as stated. -/
import Derived.Test.YtklepnldoajghaaVarH
namespace Go.Proofs.Ytklepnldoajghaa
open Go.RowKit Go.Shelf
attribute [local go_sem] Oper.semAt_some

/-- A round's contract in another round, however deep: at the wide fence. -/
theorem round_wide {m m' l' : Nat} {P : Program} {l : Nat} {f : FuncId} {tmps : Array Value} {assign body : Code} {w : World} {R : Ending → World → Prop}
    (h : RoundIn Fence.wide m P l f tmps assign body w R) : RoundIn (Fence.wide.inRound l') m' P l f tmps assign body w R := ⟨h.1, fun c cs _ => h.2 c cs (fun d hd => by cases hd)⟩

abbrev encA (x : ByteArray × Vb) : Array Value := #[.agg #[.string x.1, .string x.2.val, .bool x.2.ex, .bool x.2.ro, .bool (!x.2.st)]]

set_option maxHeartbeats 400000 in
theorem All_any (p : Option Addr) (w : World) : Calls Try.prog 25 #[.pointer p] w fun e w' => e = .returned (.func (.func 41) #[] #[.pointer (some ⟨w.heap.size, 0, none⟩)]) ∧ w' = w.alloc (.cells #[.pointer p] 24) := by
  go_enter Try.func25, Try.ntmps25
  go_wp2
  go_ret
  exact ⟨rfl, rfl⟩

set_option maxRecDepth 100000 in
set_option maxHeartbeats 2000000 in
theorem all41_in (n : Nat) (hn : 3 ≤ n) (l Bn n₀ p : Nat) (L : Vl) (kv vv : Value) (J Jx : List Nat → Vl → World → Prop) (W : World)
    (hJa : Abide J) (hJxa : Abide Jx)
    (hY : ∀ T pre x W1, pre ++ [x] <+: L → J T pre W1 → YieldAt Fence.wide (n - 1) Try.prog l (encA x) W1 fun e W' =>
      (e = .returned (.bool true) ∧ J T (pre ++ [x]) W' ∧ Keeps T W1 W' ∧ noK pre x W1 W') ∨ (e = .returned (.bool false) ∧ Jx T (pre ++ [x]) W' ∧ Keeps T W1 W'))
    (hBn : W.cell? ⟨Bn, 0, none⟩ = some (.pointer (some ⟨p, 0, none⟩))) (hO : OrdAt n₀ W p L kv vv) (h0 : J [] [] W) :
    CallsIn Fence.wide n Try.prog 41 #[.func (.yield l) #[] #[], .pointer (some ⟨Bn, 0, none⟩)] W fun e W' => (∃ v, e = .returned v) ∧
      ((∃ T xs, xs = L ∧ J T xs W') ∨ (∃ T pre, pre <+: L ∧ Jx T pre W')) := by
  have h1 : 1 ≤ n := by omega
  have hBl : Bn < W.heap.size := block_of_cell hBn
  have hBn1 : ∀ o, (W.alloc o).cell? ⟨Bn, 0, none⟩ = some (.pointer (some ⟨p, 0, none⟩)) := fun o => (cell_alloc o hBl).trans hBn
  have hOH := Lib.hid hO
  have hJaH := Lib.hid hJa
  have hJxaH := Lib.hid hJxa
  have h0H := Lib.hid h0
  have hYH := Lib.hid hY
  clear hO hJa hJxa h0 hY
  refine callsIn_of_wp_marks Try.func41 rfl trivial ?_ rfl
  simp only [Try.ntmps41, List.size_toArray, List.length_cons, List.length_nil, Nat.reduceAdd, Nat.reduceSub, Array.replicate_succ, Array.replicate_zero, List.push_toArray, List.append_toArray, List.nil_append, List.cons_append]
  gi_wp2_with (refine ⟨trivial, ?_⟩; gi_at_call 42; refine (callsIn_wide.2 (all_any _ _)).mono ?_; rintro e w' ⟨rfl, rfl⟩)
  obtain ⟨b2, hb2⟩ : ∃ b2, W.heap.size = b2 := ⟨_, rfl⟩
  obtain ⟨W0, hW0⟩ : ∃ W0, (W.alloc (.cells #[.func (.yield l) #[] #[]] 79)).alloc (.cells #[.pointer (some ⟨p, 0, none⟩)] 84) = W0 := ⟨_, rfl⟩
  have hs0 : W0.heap.size = b2 + 2 := by rw [← hW0, ← hb2]; simp
  have hB20 : Blk W0 b2 79 #[.func (.yield l) #[] #[]] := by rw [← hW0, ← hb2]; exact (Blk.new W 79 _).alloc _
  have hBn0 : W0.cell? ⟨b2 + 1, 0, none⟩ = some (.pointer (some ⟨p, 0, none⟩)) := by
    have h := Blk.new (W.alloc (.cells #[.func (.yield l) #[] #[]] 79)) 84 #[.pointer (some ⟨p, 0, none⟩)]
    rw [World.size_alloc, hW0, hb2] at h
    exact h.cell 0
  have hBel : Below W.heap.size W W0 := by rw [← hW0]; exact ((Below.refl _ W).alloc (Nat.le_refl _) _).alloc (by simp) _
  have hpl : p < W.heap.size := block_of_cell hOH.out.c0
  have hO0 : OrdAt n₀ W0 p L kv vv := ⟨(hBel.cell (p := ⟨p, 0, none⟩) hpl).trans hOH.out.c0, (hBel.cell (p := ⟨p, 1, none⟩) hpl).trans hOH.out.c1, row_beneath hOH.out.keys hBel, row_beneath hOH.out.vals hBel, hOH.out.srt, hOH.out.len⟩
  rw [hW0, hb2]
  have hJ0 : J [b2] [] W0 := hJaH.out _ _ _ _ _ h0H.out ⟨hBel.os, hBel.tape, hBel.output, hBel.size, fun k hk _ => hBel.block k hk, fun k hk => .inr (by rw [List.mem_singleton.1 hk]; omega)⟩
  refine range_law rfl h1 (gf := 54) (lb := #[.pointer (some ⟨b2 + 1, 0, none⟩)]) rfl trivial (enters_of Try.func54 (by kernel_rfl) rfl)
    (all_seq (n - 1) (by omega) (b2 + 1) n₀ p L kv vv W0 (by omega) hBn0 hO0) (fun _ _ _ _ _ _ _ _ h => h) (Below.refl _ _) (fun _ => rfl)
    (fun T pre X => J (b2 :: T) pre X ∧ Blk X b2 79 #[.func (.yield l) #[] #[]] ∧ ∀ k ∈ T, k ≠ b2)
    (fun c T pre X => c = .ret ∧ Jx (b2 :: T) pre X)
    (fun T T' pre A B hs he => ⟨hJaH.out _ _ _ _ _ hs.1 (he.cons b2), (he.block b2 hs.2.1.lt (fun e => hs.2.2 _ e rfl)).trans hs.2.1, fun k hk e => by
      rcases he.new k hk with g | g
      · exact hs.2.2 k g e
      · have := hs.2.1.lt; omega⟩)
    (fun c T T' pre A B hs he => ⟨hs.1, hJxaH.out _ _ _ _ _ hs.2 (he.cons b2)⟩)
    ⟨hJ0, hB20, fun k hk => by cases hk⟩
    (fun x X => { tmps := #[.func (.yield l) #[] #[], .pointer (some ⟨Bn, 0, none⟩), .pointer (some ⟨b2, 0, none⟩), .string x.1, .pointer (some ⟨X.heap.size, 0, none⟩), .pointer (some ⟨p, 0, none⟩), .bool false, .pointer (some ⟨p, 0, none⟩), .pointer (some ⟨p, 0, none⟩), .pointer (some ⟨p, 0, none⟩), .func (.func 54) #[] #[.pointer (some ⟨b2 + 1, 0, none⟩)], .string x.1, .agg #[.string x.2.val, .bool x.2.st, .bool x.2.ex, .bool x.2.ro], undef, undef, undef, undef, undef, undef, undef, undef, undef, undef, undef, undef, undef, undef], defers := [] })
    (fun x X => X.alloc (.cells #[.string x.2.val, .bool x.2.st, .bool x.2.ex, .bool x.2.ro] 68))
    (fun x X => (Below.refl _ X).alloc (Nat.le_refl _) _) (fun _ _ _ _ h => h) ?assign ?body ?done ?stop
  case assign =>
    intro l' x X K hK
    gi_wp2
    simpa [encV] using hK
  case body =>
    rintro l' T pre x X X' o hsp ⟨hJ, hb, hT⟩ hl' hX' ⟨hJ', hb', _⟩
    obtain ⟨xk, ⟨xv, xs, xe, xr⟩⟩ := x
    obtain ⟨m, hm⟩ : ∃ m, X.heap.size = m := ⟨_, rfl⟩
    have hBx : Blk X' m 68 #[.string xv, .bool xs, .bool xe, .bool xr] := by
      rw [hX', ← hm]
      exact (World.putObj_heap_other (Nat.ne_of_gt hl')).trans (Blk.new X 68 _)
    obtain ⟨⟨c0, c1, c2, c3⟩, _⟩ := blk4 hBx
    have r0 : X'.cell? ⟨b2, 0, none⟩ = some (.func (.yield l) #[] #[]) := hb'.cell 0
    obtain ⟨fn, tmps, assign, body, hy, hR⟩ := hYH.out (b2 :: T) pre (xk, ⟨xv, xs, xe, xr⟩) X' hsp hJ'
    dsimp only [encA] at hy
    have hRH := Lib.hid hR
    have hb'H := Lib.hid hb'
    have hTH := Lib.hid hT
    clear hR hJ hb hT hX' hJ' hb' hBx
    dsimp only
    rw [hm]
    gi_wp2
    refine ⟨fun h => (by cases h), round_wide (hRH.out.mono ?_)⟩
    rintro e W5 (⟨rfl, hJ5, hk5, _⟩ | ⟨rfl, hJx5, hk5⟩)
    · have hJ5H := Lib.hid hJ5
      have hk5H := Lib.hid hk5
      clear hJ5 hk5
      gi_wp2
      exact ⟨⟨hJ5H.out, (hk5H.out.block b2 (List.mem_cons_self ..) hb'H.out.lt).trans hb'H.out, hTH.out⟩, ⟨hk5H.out.size, fun k hk hks => hk5H.out.block k (List.mem_cons_of_mem _ hk) hks⟩, trivial⟩
    · have hJx' := Lib.hid hJx5
      have hk5H := Lib.hid hk5
      clear hJx5 hk5
      gi_wp2
      exact ⟨⟨rfl, hJx'.out⟩, ⟨hk5H.out.size, fun k hk hks => hk5H.out.block k (List.mem_cons_of_mem _ hk) hks⟩⟩
  case done =>
    rintro D T ys X hD hDT rfl ⟨hJ, _, _⟩ hK
    gi_wp2
    refine ⟨by simp, .inl ⟨_, _, rfl, run_takeDeferred hK, ?_⟩⟩
    exact ⟨_, results_none rfl _ _ _, ⟨_, rfl⟩, .inl ⟨b2 :: T, _, rfl, hJaH.out _ _ _ _ _ hJ (.put (List.mem_cons_of_mem _ hDT) _)⟩⟩
  case stop =>
    rintro D c T pre X hD hDT hpre ⟨rfl, hJx⟩ hK
    gi_wp2
    refine ⟨by simp, .inl ⟨_, _, rfl, run_takeDeferred hK, ?_⟩⟩
    exact ⟨_, results_none rfl _ _ _, ⟨_, rfl⟩, .inr ⟨b2 :: T, _, hpre, hJxaH.out _ _ _ _ _ hJx (.put (List.mem_cons_of_mem _ hDT) _)⟩⟩

theorem All_seq (n : Nat) (hn : 3 ≤ n) (Bn n₀ p : Nat) (L : Vl) (kv vv : Value) (w : World) (hB0 : Bn < w.heap.size) (hBn : w.cell? ⟨Bn, 0, none⟩ = some (.pointer (some ⟨p, 0, none⟩))) (hO : OrdAt n₀ w p L kv vv) :
    SeqT Fence.wide n Try.prog 41 #[.pointer (some ⟨Bn, 0, none⟩)] encA noK (fun xs => xs = L) (fun pre => pre <+: L) w := by
  intro l J Jx W hW hJa hJxa hY h0
  have hp : p < w.heap.size := block_of_cell hO.c0
  exact all41_in n hn l Bn n₀ p L kv vv J Jx W hJa hJxa hY ((hW.cell (p := ⟨Bn, 0, none⟩) hB0).trans hBn)
    ⟨(hW.cell (p := ⟨p, 0, none⟩) hp).trans hO.c0, (hW.cell (p := ⟨p, 1, none⟩) hp).trans hO.c1, row_beneath hO.keys hW, row_beneath hO.vals hW, hO.srt, hO.len⟩ h0
end Go.Proofs.Ytklepnldoajghaa
