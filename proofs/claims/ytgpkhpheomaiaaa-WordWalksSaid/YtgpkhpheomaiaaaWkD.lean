/- A range over a function whose variable lies in memory; the iterator over a word's parts. No condition. -/
import Derived.Test.YtgpkhpheomaiaaaWkC
import Derived.Test.YtgpkhpheomaiaaaLxQR
namespace Go.Proofs.Ytgpkhpheomaiaaa
open Go.RowKit Go.Shelf Go.PlainAid
attribute [local go_sem] Oper.semAt_some

theorem newB (w : World) (cs : Array Value) {t : TypeId} (g : Nat) (hg : w.heap.size = g) : Blk (w.alloc (.cells cs t)) g t cs := by rw [← hg]; exact Blk.new _ _ _
theorem keepsFrom_alloc (B : Nat) (W : World) (o : Obj) : KeepsFrom B W (W.alloc o) :=
  ⟨by simp, fun k o' _ hk _ => (Below.heap_alloc W o k (Array.getElem?_eq_some_iff.1 hk).1).trans hk⟩
theorem blk_own (B q : Nat) (t : TypeId) (cs : Array Value) : OwnFrom B (fun (_ : Unit) W => Blk W q t cs) := fun _ X Y row hs hg hr => by
  refine (hg.block q hs.lt (fun e => ?_)).trans hs
  obtain ⟨_, o, ho, hc⟩ := hr q e.symm
  rw [show X.heap[q]? = _ from hs] at ho
  cases ho
  cases hc

theorem wpIn_range_boxed {F : Fence} {n : Nat} {P : Program} {α : Type} {g : Operand} {ps : Array Tmp} {assign body : Code} {Q : Exit → Act → World → Prop} {a : Act} {w : World}
    (hro : F.round = none) (h1 : 1 ≤ n) {gf : Nat} {lb : Array Value} (hg : a.eval g = .func (.func gf) #[] lb) (hFg : F.fn gf) (eg : ∀ args w, (callFunc gf args).run P w = .ok (.enter gf args) w)
    {encs : α → Array Value} {Kp : World → World → Prop} {S Sp : List α → Prop} {N : Nat} (hseq : SeqStopsK F (n - 1) P gf lb encs Kp S Sp N w)
    (hKt : ∀ {A B C : World}, Kp A B → Kp B C → Kp A C) (hKb : ∀ (W : World) (l : Nat) (o o' : Obj), w.heap.size ≤ l → W.heap[l]? = some o → o.isCells = false → o.isWalk = false → Kp W (W.putObj l o')) (hKa : ∀ (W : World) (o : Obj), Kp W (W.alloc o)) (hps : ∀ x, (encs x).size = ps.size)
    (I : List α → World → Prop) (Ix : Code → List α → World → Prop) (hI : OwnFrom w.heap.size I) (hIx : ∀ c, OwnFrom w.heap.size (Ix c)) (hIs : ∀ p W, I p W → w.heap.size ≤ W.heap.size) (h0 : I [] w) (t : TypeId) (cells : α → Array Value) (A : α → Nat → Act)
    (hassign : ∀ (l q : Nat) (x : α) (W : World) (K : Act → World → Prop), W.heap.size = q → K (A x q) (W.alloc (.cells (cells x) t)) →
      assign.wpIn (F.inRound l) (n - 1 - 1) P (Exit.then K (fun _ _ _ => False)) { tmps := (ps.zip (encs x)).foldl (fun t (p, v) => t.setIfInBounds p v) a.tmps, defers := [] } W)
    (hbody : ∀ (l q : Nat) (pre : List α) (x : α) (W : World), I pre W → w.heap.size ≤ q → Blk W q t (cells x) → pre.length < N → body.wpIn (F.inRound l) (n - 1 - 1) P (ownPostG w.heap.size Kp I Ix (pre ++ [x]) W) (A x q) W)
    (hdone : ∀ (D : Nat) (xs : List α) (W : World), w.heap.size ≤ D → S xs → I xs W → W.heap[D]? = some (.deferred (some [])) → Q .normal { a with defers := { target := .collected D, args := #[] } :: a.defers } W)
    (hstop : ∀ (D : Nat) (c : Code) (pre : List α) (W : World), w.heap.size ≤ D → Sp pre → Ix c pre W → W.heap[D]? = some (.deferred (some [])) → c.wpIn F n P Q { a with defers := { target := .collected D, args := #[] } :: a.defers } W) :
    (Code.rangeFunc g ps assign body).wpIn F n P Q a w :=
  wpIn_rangeFunc_ownH hro h1 hg hFg eg hseq (fun h k => hKt h k) hKb (Below.refl _ _) hps I Ix hI hIx h0 (fun x a' W' => ∃ q, w.heap.size ≤ q ∧ Blk W' q t (cells x) ∧ a' = A x q)
    (fun x a' _ X Y row ⟨q, h1, h2, h3⟩ hg hr => ⟨q, h1, blk_own w.heap.size q t (cells x) () X Y row h2 hg hr, h3⟩)
    (fun l pre x W K hi hK => hassign l _ x W K rfl (hK _ _ (keepsFrom_alloc _ _ _) (hKa _ _) (hI.alloc _ hi) ⟨_, hIs _ _ hi, newB _ _ _ rfl, rfl⟩))
    (fun l pre x a' W _ _ hi ⟨q, h1, h2, h3⟩ hlen => by rw [h3]; exact hbody l q pre x W hi h1 h2 hlen) hdone hstop

theorem keepC_walk {S : Nat → Prop} {W W' : World} (h : KeepC S W W') {B : Nat} {t : TypeId} {cs : Array Value} (hb : Blk W B t cs) (hB : ¬ S B) : Blk W' B t cs := h.blk hb hB
theorem below_grown {w w' : World} (h : Below w.heap.size w w') : w.grownBy w' none := ⟨h.os, h.tape, h.output, h.size, fun i hi _ => h.block i hi⟩
theorem Walk_any (a : Option Addr) (n c : Nat) (w : World) : Calls Try.prog 11 #[.slice a n c] w fun e w' => e = .returned (.func (.func 17) #[] #[.pointer (some ⟨w.heap.size, 0, none⟩)]) ∧ w' = w.alloc (.cells #[.slice a n c] 26) := by
  go_enter Try.func11, Try.ntmps11
  go_wp2
  go_ret
  exact ⟨rfl, rfl⟩
/-- A piece of the list, as far as its first parts go. -/
def PM (Y : List PT) (pre : List Pt) : Prop := ∃ ps, ps <+: Y ∧ Mat pre ps
set_option maxRecDepth 100000 in
set_option maxHeartbeats 3000000 in
theorem walk1_in (D d : Nat) (hd : 1 ≤ d) (l B n₀ N : Nat) (S : Nat → Prop) (a : Option Addr) (n c : Nat) (ll : List PT) (T : Nat → Prop) (J Jx : List Pt → World → Prop)
    (hY : ∀ pre x W, J pre W → pre.length < N → YieldAt Fence.wide 0 Try.prog l (encP x) W fun e W' => (e = .returned (.bool true) ∧ J (pre ++ [x]) W' ∧ KeepC S W W') ∨ (e = .returned (.bool false) ∧ Jx (pre ++ [x]) W'))
    (W : World) (hJb : ∀ p (W W' : World), J p W → Below W.heap.size W W' → J p W') (hB : Blk W B 26 #[.slice a n c]) (hS : ∀ g, S g → g < n₀) (hW : WAt W T D (.slice a n c) ll) (hT : ∀ g, T g → g < W.heap.size ∧ ¬ S g) (hn₀ : n₀ ≤ W.heap.size) (hN : cntL ll ≤ N) (hc : cntL ll ≤ 40000) (h0 : J [] W) :
    CallsIn Fence.wide d Try.prog 17 #[.func (.yield l) #[] #[], .pointer (some ⟨B, 0, none⟩)] W fun e W' => (∃ v, e = .returned v) ∧
      ((∃ ys, Mat ys (flatL ll) ∧ J ys W') ∨ (∃ pre, PM (flatL ll) pre ∧ Jx pre W')) := by
  have hcall := Lib.hid (callsIn_wide.1 (walk_in l n₀ N S J Jx hY hJb hS D 1 (Nat.le_refl _) a n c ll T W [] hW hT hn₀ (by simpa using hN) hc h0))
  have x0 : W.cell? ⟨B, 0, none⟩ = some (.slice a n c) := hB.cell 0
  clear hW hT hB hY hJb hS
  refine callsIn_of_wp Try.func17 rfl trivial ?_ rfl
  simp only [Try.ntmps17, List.size_toArray, List.length_cons, List.length_nil, Nat.reduceAdd, Nat.reduceSub, Array.replicate_succ, Array.replicate_zero, List.push_toArray, List.append_toArray, List.nil_append, List.cons_append]
  gi_wp2_with (refine ⟨trivial, ?_⟩; gi_at_call 18; refine (callsIn_wide.2 hcall.out).mono ?_; rintro e W5 (⟨rfl, ys, hMy, hJ5, hK5⟩ | ⟨rfl, ys, hps, hJ5⟩))
  · gi_wp2
    go_end0
    exact ⟨⟨_, rfl⟩, .inl ⟨ys, hMy, hJ5⟩⟩
  · gi_wp2
    go_end0
    exact ⟨⟨_, rfl⟩, .inr ⟨ys, hps, hJ5⟩⟩
theorem walk_stops (D d : Nat) (hd : 1 ≤ d) (B n₀ N : Nat) (S : Nat → Prop) (a : Option Addr) (n c : Nat) (ll : List PT) (T : Nat → Prop) (w : World) (hB : Blk w B 26 #[.slice a n c]) (hS : ∀ g, S g → g < n₀) (hW : WAt w T D (.slice a n c) ll) (hT : ∀ g, T g → g < w.heap.size ∧ ¬ S g) (hn₀ : n₀ ≤ w.heap.size) (hN : cntL ll ≤ N) (hc : cntL ll ≤ 40000) :
    SeqStopsK Fence.wide d Try.prog 17 #[.pointer (some ⟨B, 0, none⟩)] encP (KeepC S) (fun xs => Mat xs (flatL ll)) (PM (flatL ll)) N w := by
  intro l J Jx W hWW hJ _ hY h0
  refine walk1_in D d hd l B n₀ N S a n c ll T J Jx (fun pre x W h1 h2 => yield_wide (hY pre x W h1 h2)) W (fun p W W' h hb => hJ p W W' none h (below_grown hb) (fun r e => by cases e)) (blk_beneath hB hWW) hS
    (WAt_mono (fun _ h => h) (fun y hy => hWW.block y (hT y hy).1) _ _ _ hW) (fun g hg => ⟨Nat.lt_of_lt_of_le (hT g hg).1 hWW.size, (hT g hg).2⟩) (Nat.le_trans hn₀ hWW.size) hN hc h0
end Go.Proofs.Ytgpkhpheomaiaaa
