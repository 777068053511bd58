/- The slots one by one; Bytes, Count. Condition: the tree lies as stated. -/
import Derived.Test.YtohgecmbkjienaaRgL
import Derived.RangeFuncNested
import Derived.RangeFuncBound
import Derived.RangeFuncCalls
import Derived.RangeFuncLeaves
import Derived.RangeFuncFrom
import Derived.RangeFuncBox
import Derived.Shelf.Abstract
import Derived.Shelf.RegionOpen
import Derived.OwnWalk
import Derived.OwnWalkIn
import Derived.TacticsInMore
import Derived.LoopNIn
import Derived.LoopIn
import Derived.Sort.CutIn
import Derived.Sort.QuietIn
namespace Go.Proofs.Ytohgecmbkjienaa
open Go.RowKit Go.Shelf Go.PlainAid
attribute [local go_sem] Oper.semAt_some

theorem alB (w : World) (o : Obj) : Below w.heap.size w (w.alloc o) := (Below.refl _ _).alloc (Nat.le_refl _) _
theorem below_of {k n₀ : Nat} {w w1 : World} (h : Below k w w1) (hk : n₀ ≤ k) : Below n₀ w w1 := ⟨h.os, h.tape, h.output, h.size, fun g hg => h.block g (by omega)⟩
/-- What a round keeps: every block of cells but those in S. -/
structure KeepC (S : Nat → Prop) (W W' : World) : Prop where
  size : W.heap.size ≤ W'.heap.size
  same : ∀ g o, W.heap[g]? = some o → o.isCells = true → ¬ S g → W'.heap[g]? = some o
theorem KeepC.trans {S : Nat → Prop} {A B C : World} (h : KeepC S A B) (k : KeepC S B C) : KeepC S A C :=
  ⟨Nat.le_trans h.size k.size, fun g o h1 h2 h3 => k.same g o (h.same g o h1 h2 h3) h2 h3⟩
theorem KeepC.refl (S : Nat → Prop) (W : World) : KeepC S W W := ⟨Nat.le_refl _, fun _ _ h _ _ => h⟩
theorem keepC_put {S : Nat → Prop} (W : World) (l : Nat) (o o' : Obj) (h : W.heap[l]? = some o) (h1 : o.isCells = false) : KeepC S W (W.putObj l o') :=
  ⟨by simp [World.putObj], fun g o2 hg hc _ => by
    by_cases e : g = l
    · subst e
      rw [h] at hg
      cases hg
      rw [h1] at hc
      cases hc
    · exact (World.putObj_heap_other (by omega)).trans hg⟩
theorem KeepC.blk {S : Nat → Prop} {W W' : World} (h : KeepC S W W') {g : Nat} {t : TypeId} {cs : Array Value} (hb : Blk W g t cs) (hg : ¬ S g) : Blk W' g t cs := h.same g _ hb rfl hg
theorem KeepC.heap {S : Nat → Prop} {W W' : World} (h : KeepC S W W') {g : Nat} {o : Obj} (hb : W.heap[g]? = some o) (hc : o.isCells = true) (hg : ¬ S g) : W'.heap[g]? = W.heap[g]? := (h.same g _ hb hc hg).trans hb.symm
theorem keepC_of {S : Nat → Prop} {W W' : World} (h : Below W.heap.size W W') : KeepC S W W' :=
  ⟨h.size, fun g _ hg _ _ => (h.block g (Array.getElem?_eq_some_iff.1 hg).1).trans hg⟩
theorem row_keepC {W W' : World} {base size n : Nat} {e : TypeId} {v : Value} {xs : List Value} {S : Nat → Prop} (h : W.ownsRow base e size v n xs) (k : KeepC S W W') (hS : ∀ g, v.ownBlock = some g → ¬ S g) : W'.ownsRow base e size v n xs := by
  refine row_keep h (fun g hg => ?_)
  rcases h.2 with ⟨rfl, _⟩ | ⟨g1, cap, cur, rfl, _, hb, _⟩
  · simp [Value.ownBlock] at hg
  · obtain rfl : g1 = g := by simpa [Value.ownBlock] using hg
    exact k.heap hb rfl (hS _ rfl)
theorem yield_wide {m m' l : Nat} {P : Program} {args : Array Value} {W : World} {R : Ending → World → Prop} (h : YieldAt Fence.wide m P l args W R) : YieldAt Fence.wide m' P l args W R := by
  obtain ⟨fn, tmps, assign, body, h1, h2, h3⟩ := h
  exact ⟨fn, tmps, assign, body, h1, h2, fun c cs _ => h3 c cs (room_wide _)⟩
theorem newB (w : World) (cs : Array Value) {t : TypeId} (g : Nat) (hg : w.heap.size = g) : Blk (w.alloc (.cells cs t)) g t cs := by rw [← hg]; exact Blk.new _ _ _
theorem keepsFrom_alloc (B : Nat) (W : World) (o : Obj) : KeepsFrom B W (W.alloc o) :=
  ⟨by simp, fun k o' _ hk _ => (Below.heap_alloc W o k (Array.getElem?_eq_some_iff.1 hk).1).trans hk⟩
theorem blk_own (B q : Nat) (t : TypeId) (cs : Array Value) : OwnFrom B (fun (_ : Unit) W => Blk W q t cs) := fun _ X Y row hs hg hr => by
  refine (hg.block q hs.lt (fun e => ?_)).trans hs
  obtain ⟨_, o, ho, hc⟩ := hr q e.symm
  rw [show X.heap[q]? = _ from hs] at ho
  cases ho
  cases hc

theorem below_grown {w w' : World} (h : Below w.heap.size w w') : w.grownBy w' none := ⟨h.os, h.tape, h.output, h.size, fun i hi _ => h.block i hi⟩
theorem keepsOthers_drewN (W : World) (n : Nat) : KeepsOthers W (W.drewN n) := ⟨Nat.le_refl _, fun _ _ h _ => h⟩
theorem keepC_set {S : Nat → Prop} (W : World) (b : Nat) (hb : S b) (u : Value) : KeepC S W (W.setCell ⟨b, 0, none⟩ u) :=
  ⟨by simp, fun g o hg _ hs => (Below.heap_setCell _ _ _ _ (fun e => hs (by rw [show g = b from e]; exact hb))).trans hg⟩
theorem keepC_drewN {S : Nat → Prop} (W : World) (n : Nat) : KeepC S W (W.drewN n) := ⟨Nat.le_refl _, fun _ _ h _ _ => h⟩

def lives (ps : List (Option Nat)) : List Nat := ps.filterMap id
theorem lives_take {ps : List (Option Nat)} {i : Nat} {o : Option Nat} (h : ps[i]? = some o) : lives (ps.take (i + 1)) = lives (ps.take i) ++ o.toList := by
  unfold lives
  rw [List.take_add_one, h, List.filterMap_append]
  cases o <;> rfl
theorem lives_pre (ps : List (Option Nat)) (i : Nat) : lives (ps.take i) <+: lives ps := by
  unfold lives
  conv => rhs; rw [← List.take_append_drop i ps, List.filterMap_append]
  exact List.prefix_append _ _
theorem lives_len (ps : List (Option Nat)) (i : Nat) : (lives (ps.take i)).length ≤ i := by
  unfold lives
  have := List.length_filterMap_le (id : Option Nat → Option Nat) (ps.take i)
  rw [List.length_take] at this
  omega
def encN (q : Nat) : Array Value := #[.pointer (some ⟨q, 0, none⟩)]
/-- What the slots lie in stays. -/
structure SlotsAt (W : World) (b p : Nat) (sv : Value) (ps : List (Option Nat)) : Prop where
  box : Blk W b 102 #[.pointer (some ⟨p, 0, none⟩)]
  blk : Blk W p 68 #[sv]
  row : W.ownsRow 0 77 1 sv ps.length (ptrs ps)
theorem SlotsAt.keep {W W' : World} {b p : Nat} {sv : Value} {ps : List (Option Nat)} {S : Nat → Prop} (h : SlotsAt W b p sv ps) (k : KeepC S W W') (h1 : ¬ S b) (h2 : ¬ S p) (h3 : ∀ g, sv.ownBlock = some g → ¬ S g) : SlotsAt W' b p sv ps :=
  ⟨k.blk h.box h1, k.blk h.blk h2, row_keepC h.row k h3⟩
theorem SlotsAt.cell {W : World} {b p : Nat} {sv : Value} {ps : List (Option Nat)} (h : SlotsAt W b p sv ps) {i : Nat} {o : Option Nat} (hi : ps[i]? = some o) : ∃ g c, sv = .slice (some ⟨g, 0, none⟩) ps.length c ∧ W.cell? ⟨g, i, none⟩ = some (ptrV o) := by
  have hl := (List.getElem?_eq_some_iff.1 hi).1
  obtain ⟨g, cap, e, _, _⟩ := h.row.form (by omega)
  refine ⟨g, cap, e, ?_⟩
  have h9 := h.row
  rw [e] at h9
  rw [h9.cellAt _ (by omega)]
  simp [ptrs, hi]
/-- What a round keeps: the blocks below n₀, but those in S. -/
structure KeepN (n₀ : Nat) (S : Nat → Prop) (W W' : World) : Prop where
  size : W.heap.size ≤ W'.heap.size
  same : ∀ g, g < n₀ → ¬ S g → W'.heap[g]? = W.heap[g]?
theorem KeepN.refl (n₀ : Nat) (S : Nat → Prop) (W : World) : KeepN n₀ S W W := ⟨Nat.le_refl _, fun _ _ _ => rfl⟩
theorem KeepN.trans {n₀ : Nat} {S : Nat → Prop} {A B C : World} (h : KeepN n₀ S A B) (k : KeepN n₀ S B C) : KeepN n₀ S A C := ⟨Nat.le_trans h.size k.size, fun g h1 h2 => (k.same g h1 h2).trans (h.same g h1 h2)⟩
theorem keepN_b {n₀ : Nat} {S : Nat → Prop} {A B : World} {k : Nat} {o o' : Obj} (hk : n₀ ≤ k) (h : KeepN n₀ S (A.putObj k o) B) : KeepN n₀ S A (B.putObj k o') :=
  ⟨by have := h.size; simp [World.putObj] at this ⊢; exact this, fun g h1 h2 => (World.putObj_heap_other (by omega)).trans ((h.same g h1 h2).trans (World.putObj_heap_other (by omega)))⟩
theorem keepN_set {n₀ : Nat} {S : Nat → Prop} {A B : World} (h : KeepN n₀ S A B) {c o : Nat} (hc : S c ∨ n₀ ≤ c) (u : Value) : KeepN n₀ S A (B.setCell ⟨c, o, none⟩ u) :=
  ⟨by rw [World.size_setCell]; exact h.size, fun g h1 h2 => (Below.heap_setCell _ _ _ _ (fun e => by
    have e' : g = c := e
    rcases hc with h3 | h3
    · exact h2 (e' ▸ h3)
    · omega)).trans (h.same g h1 h2)⟩
theorem keepN_below {n₀ : Nat} {S : Nat → Prop} {A B C : World} (h : KeepN n₀ S A B) (hn : n₀ ≤ B.heap.size) (k : Below B.heap.size B C) : KeepN n₀ S A C := ⟨Nat.le_trans h.size k.size, fun g h1 h2 => (k.block g (by omega)).trans (h.same g h1 h2)⟩
theorem SlotsAt.keepN {W W' : World} {b p n₀ : Nat} {sv : Value} {ps : List (Option Nat)} {S : Nat → Prop} (h : SlotsAt W b p sv ps) (k : KeepN n₀ S W W') (h1 : b < n₀ ∧ ¬ S b) (h2 : p < n₀ ∧ ¬ S p) (h3 : ∀ g, sv.ownBlock = some g → g < n₀ ∧ ¬ S g) : SlotsAt W' b p sv ps :=
  ⟨(k.same b h1.1 h1.2).trans h.box, (k.same p h2.1 h2.2).trans h.blk, row_keep h.row (fun g hg => k.same g (h3 g hg).1 (h3 g hg).2)⟩
/-- What a caller's invariant holds: all but the blocks in X lie as they lay; the iterator's own ones are new, or in XT. -/
structure InvG (n₀ : Nat) (X XT : Nat → Prop) (w0 : World) (T : List Nat) (W : World) : Prop where
  ts : ∀ k ∈ T, n₀ ≤ k ∨ XT k
  os : W.os = w0.os
  tape : W.tape = w0.tape
  output : W.output = w0.output
  n0 : n₀ ≤ W.heap.size
  block : ∀ g, g < n₀ → ¬ X g → W.heap[g]? = w0.heap[g]?
theorem InvG.ext {n₀ : Nat} {X XT : Nat → Prop} {w0 A B : World} {T T' : List Nat} (h : InvG n₀ X XT w0 T A) (hX : ∀ g, XT g → X g) (he : Ext T A T' B) : InvG n₀ X XT w0 T' B :=
  ⟨fun k hk => by
    rcases he.new k hk with h1 | h1
    · exact h.ts k h1
    · have := h.n0; exact .inl (by omega), he.os.trans h.os, he.tape.trans h.tape, he.output.trans h.output, Nat.le_trans h.n0 he.size, fun g h1 h2 => (he.block g (by have := h.n0; omega) (fun h3 => by
      rcases h.ts g h3 with h4 | h4
      · omega
      · exact h2 (hX g h4))).trans (h.block g h1 h2)⟩
theorem InvG.start {n₀ : Nat} {X XT : Nat → Prop} {w0 : World} {T : List Nat} (hT : ∀ k ∈ T, XT k) (hn : n₀ ≤ w0.heap.size) : InvG n₀ X XT w0 T w0 := ⟨fun k hk => .inr (hT k hk), rfl, rfl, rfl, hn, fun _ _ _ => rfl⟩
theorem InvG.set {n₀ : Nat} {X XT : Nat → Prop} {w0 W : World} {T : List Nat} (h : InvG n₀ X XT w0 T W) {c o : Nat} (hc : X c ∨ n₀ ≤ c) (u : Value) : InvG n₀ X XT w0 T (W.setCell ⟨c, o, none⟩ u) :=
  ⟨h.ts, h.os, h.tape, h.output, by rw [World.size_setCell]; exact h.n0, fun g h1 h2 => (Below.heap_setCell _ _ _ _ (fun e => by
    have e' : g = c := e
    rcases hc with h3 | h3
    · exact h2 (e' ▸ h3)
    · omega)).trans (h.block g h1 h2)⟩
theorem InvG.below {n₀ : Nat} {X XT : Nat → Prop} {w0 W W' : World} {T : List Nat} (h : InvG n₀ X XT w0 T W) (k : Below W.heap.size W W') : InvG n₀ X XT w0 T W' :=
  ⟨h.ts, k.os.trans h.os, k.tape.trans h.tape, k.output.trans h.output, Nat.le_trans h.n0 k.size, fun g h1 h2 => (k.block g (by have := h.n0; omega)).trans (h.block g h1 h2)⟩
theorem blk_ext {n₀ : Nat} {XT : Nat → Prop} {A B : World} {T T' : List Nat} {c : Nat} {t : TypeId} {cs : Array Value} (hb : Blk A c t cs) (hts : ∀ k ∈ T, n₀ ≤ k ∨ XT k) (hc : c < n₀) (hX : ¬ XT c) (he : Ext T A T' B) : Blk B c t cs :=
  (he.block c hb.lt (fun h => by
    rcases hts c h with h1 | h1
    · omega
    · exact hX h1)).trans hb
theorem InvG.toBelow {n₀ : Nat} {X XT : Nat → Prop} {w w0 W : World} {T : List Nat} (h : InvG n₀ X XT w0 T W) (hb : Below w.heap.size w w0) (hX : ∀ g, X g → w.heap.size ≤ g) (hn : w0.heap.size ≤ n₀) : Below w.heap.size w W :=
  ⟨h.os.trans hb.os, h.tape.trans hb.tape, h.output.trans hb.output, by have := hb.size; have := h.n0; omega, fun g hg => (h.block g (by have := hb.size; omega) (fun h1 => by have := hX g h1; omega)).trans (hb.block g hg)⟩
theorem keepsT {n₀ : Nat} {X XT : Nat → Prop} {w0 W W' : World} {T : List Nat} (h : InvG n₀ X XT w0 T W) (hs : W.heap.size ≤ W'.heap.size) (hb : ∀ g, (n₀ ≤ g ∨ XT g) → g < W.heap.size → W'.heap[g]? = W.heap[g]?) : Keeps T W W' := ⟨hs, fun k hk hl => hb k (h.ts k hk) hl⟩
section
variable (l n₀ b p : Nat) (sv : Value) (ps : List (Option Nat)) (S : Nat → Prop) (J Jx : List Nat → List Nat → World → Prop)
  (hY : ∀ T pre x W, pre ++ [x] <+: lives ps → J T pre W → YieldAt Fence.wide 0 Try.prog l (encN x) W fun e W' => (e = .returned (.bool true) ∧ J T (pre ++ [x]) W' ∧ Keeps T W W' ∧ KeepN n₀ S W W') ∨ (e = .returned (.bool false) ∧ Jx T (pre ++ [x]) W' ∧ Keeps T W W'))
  (hSb : b < n₀ ∧ ¬ S b) (hSp : p < n₀ ∧ ¬ S p) (hSs : ∀ g, sv.ownBlock = some g → g < n₀ ∧ ¬ S g) (hl : ps.length ≤ 100000)
include hY hSb hSp hSs hl
set_option maxRecDepth 100000 in
set_option maxHeartbeats 3000000 in
theorem all1_in (d : Nat) (hd : 1 ≤ d) (W : World) (h : SlotsAt W b p sv ps) (h0 : J [] [] W) :
    CallsIn Fence.wide d Try.prog 61 #[.func (.yield l) #[] #[], .pointer (some ⟨b, 0, none⟩)] W fun e W' => (∃ v, e = .returned v) ∧ ((∃ T ys, ys = lives ps ∧ J T ys W') ∨ (∃ T pre, pre <+: lives ps ∧ Jx T pre W')) := by
  obtain ⟨a, c, rfl⟩ := ownsRow_slice h.row
  obtain ⟨m, hm⟩ : ∃ m, ps.length = m := ⟨_, rfl⟩
  have x0 : W.cell? ⟨b, 0, none⟩ = some (.pointer (some ⟨p, 0, none⟩)) := h.box.cell 0
  have x1 : W.cell? ⟨p, 0, none⟩ = some (.slice a m c) := by rw [← hm]; exact h.blk.cell 0
  have hH := Lib.hid h
  have h0H := Lib.hid h0
  have hmH := Lib.hid hm
  have hYH := Lib.hid hY
  have hSH := Lib.hid (And.intro hSb (And.intro hSp hSs))
  rw [hm] at hl
  clear h h0 hm hY hSb hSp hSs
  refine callsIn_of_wp Try.func61 rfl trivial ?_ rfl
  simp only [Try.ntmps61, List.size_toArray, List.length_cons, List.length_nil, Nat.reduceAdd, Nat.reduceSub, Array.replicate_succ, Array.replicate_zero, List.push_toArray, List.append_toArray, List.nil_append, List.cons_append]
  gi_wp2
  gi_loopw [10] (fun s10 wr => ∃ i : Nat, i ≤ m ∧ s10 = .int .i64 i ∧ Hid (J [] (lives (ps.take i)) wr) ∧ Hid (SlotsAt wr b p (.slice a ps.length c) ps)) (fun s10 _ => m - (intOf s10).toNat)
  case atStart => exact ⟨0, Nat.zero_le _, by go_num, h0H, hH⟩
  case round =>
    obtain ⟨i, hi, rfl, hJ, hS⟩ := hrel
    by_cases hlt : i < m
    · obtain ⟨o, ho⟩ : ∃ o, ps[i]? = some o := ⟨_, List.getElem?_eq_getElem (by rw [hmH.out]; exact hlt)⟩
      obtain ⟨g, c', e, hc⟩ := hS.out.cell ho
      obtain ⟨rfl, rfl⟩ : a = some ⟨g, 0, none⟩ ∧ c = c' := by simpa using e
      have hlv := Lib.hid (lives_take ho)
      cases o with
      | none =>
        have hc2 : wr.cell? ⟨g, i, none⟩ = some (.pointer none) := hc
        clear hc e ho
        gi_wp2
        refine ⟨fun _ h => (by cases h), ?_⟩
        gi_wp2
        go_roundw
        case rel => exact ⟨i + 1, by omega, by go_num, Lib.hid (by rw [hlv.out]; simpa using hJ.out), hS⟩
        case measure => simp [intOf]; omega
      | some q =>
        have hc2 : wr.cell? ⟨g, i, none⟩ = some (.pointer (some ⟨q, 0, none⟩)) := hc
        clear hc e ho
        obtain ⟨fn, tmps, assign, body, hy, hYR⟩ := yield_wide (m' := d - 1) (hYH.out [] _ q wr (by have h9 := lives_pre ps (i + 1); rw [hlv.out] at h9; exact h9) hJ.out)
        have hYRH := Lib.hid hYR
        dsimp only [encN] at hy
        clear hYR
        gi_wp2
        refine hYRH.out.mono ?_
        rintro e W3 (⟨rfl, hJ3, _, hk3⟩ | ⟨rfl, hJx3, _⟩)
        · have hJ3H := Lib.hid hJ3
          have hS3 := Lib.hid (hS.out.keepN hk3 hSH.out.1 hSH.out.2.1 hSH.out.2.2)
          clear hJ3 hk3 hy
          gi_wp2
          go_roundw
          case rel => exact ⟨i + 1, by omega, by go_num, Lib.hid (by rw [hlv.out]; exact hJ3H.out), hS3⟩
          case measure => simp [intOf]; omega
        · have hJxH := Lib.hid hJx3
          clear hJx3
          gi_wp2
          refine bodyPost_ret (results_none rfl _ _ _) rfl ?_
          refine ⟨⟨_, rfl⟩, .inr ⟨_, _, ?_, hJxH.out⟩⟩
          have h9 := lives_pre ps (i + 1)
          rw [hlv.out] at h9
          exact h9
    · obtain rfl : i = m := by omega
      have hJ2 := hJ.out
      rw [← hmH.out, List.take_length] at hJ2
      have hJ2H := Lib.hid hJ2
      clear hJ2
      gi_wp2
      go_end0
      exact ⟨⟨_, rfl⟩, .inl ⟨_, _, rfl, hJ2H.out⟩⟩
end
theorem all_any (p : Nat) (w : World) : Calls Try.prog 33 #[.pointer (some ⟨p, 0, none⟩)] w fun e w' => e = .returned (.func (.func 61) #[] #[.pointer (some ⟨w.heap.size, 0, none⟩)]) ∧ w' = w.alloc (.cells #[.pointer (some ⟨p, 0, none⟩)] 102) := by
  go_enter Try.func33, Try.ntmps33
  go_wp2
  go_ret
  exact ⟨rfl, rfl⟩
theorem SlotsAt.below {W W' : World} {b p : Nat} {sv : Value} {ps : List (Option Nat)} (h : SlotsAt W b p sv ps) (k : Below W.heap.size W W') : SlotsAt W' b p sv ps :=
  ⟨blk_beneath h.box k, blk_beneath h.blk k, row_beneath h.row k⟩
theorem all_stops (d : Nat) (hd : 1 ≤ d) (n₀ b p : Nat) (sv : Value) (ps : List (Option Nat)) (S : Nat → Prop) (w : World) (h : SlotsAt w b p sv ps) (hSb : b < n₀ ∧ ¬ S b) (hSp : p < n₀ ∧ ¬ S p) (hSs : ∀ g, sv.ownBlock = some g → g < n₀ ∧ ¬ S g) (hl : ps.length ≤ 100000) :
    SeqT Fence.wide d Try.prog 61 #[.pointer (some ⟨b, 0, none⟩)] encN (fun _ _ => KeepN n₀ S) (fun xs => xs = lives ps) (fun pre => pre <+: lives ps) [] w := by
  intro l J Jx W hW hJ _ hY h0
  exact all1_in l n₀ b p sv ps S J Jx (fun T pre x W h1 h2 => yield_wide (hY T pre x W h1 h2)) hSb hSp hSs hl d hd W (h.below hW) h0
end Go.Proofs.Ytohgecmbkjienaa
