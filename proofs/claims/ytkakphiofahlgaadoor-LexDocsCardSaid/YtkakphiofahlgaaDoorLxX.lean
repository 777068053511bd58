/- A range over a function whose variable lies in memory. No condition. -/
import Derived.Test.YtkakphiofahlgaaDoorLxV
import Derived.Test.YtkakphiofahlgaaDoorLxQR
import Derived.RangeFuncNested
namespace Go.Proofs.YtkakphiofahlgaaDoor
open Go.RowKit Go.Shelf Go.PlainAid

theorem alB (w : World) (o : Obj) : Below w.heap.size w (w.alloc o) := (Below.refl _ _).alloc (Nat.le_refl _) _
theorem newB (w : World) (cs : Array Value) {t : TypeId} (g : Nat) (hg : w.heap.size = g) : Blk (w.alloc (.cells cs t)) g t cs := by rw [← hg]; exact Blk.new _ _ _
theorem keepsFrom_alloc (B : Nat) (W : World) (o : Obj) : KeepsFrom B W (W.alloc o) :=
  ⟨by simp, fun k o' _ hk _ => (Below.heap_alloc W o k (Array.getElem?_eq_some_iff.1 hk).1).trans hk⟩
theorem blk_own (B q : Nat) (t : TypeId) (cs : Array Value) : OwnFrom B (fun (_ : Unit) W => Blk W q t cs) := fun _ X Y row hs hg hr => by
  refine (hg.block q hs.lt (fun e => ?_)).trans hs
  obtain ⟨_, o, ho, hc⟩ := hr q e.symm
  rw [show X.heap[q]? = _ from hs] at ho
  cases ho
  cases hc

theorem wpIn_range_boxed {F : Fence} {n : Nat} {P : Program} {α : Type} {g : Operand} {ps : Array Tmp} {assign body : Code} {Q : Exit → Act → World → Prop} {a : Act} {w : World}
    (hro : F.round = none) (h1 : 1 ≤ n) {gf : Nat} {lb : Array Value} (hg : a.eval g = .func (.func gf) #[] lb) (hFg : F.fn gf) (eg : ∀ args w, (callFunc gf args).run P w = .ok (.enter gf args) w)
    {encs : α → Array Value} {Kp : World → World → Prop} {S Sp : List α → Prop} {N : Nat} (hseq : SeqStopsK F (n - 1) P gf lb encs Kp S Sp N w)
    (hKt : ∀ {A B C : World}, Kp A B → Kp B C → Kp A C) (hKb : ∀ (W : World) (l : Nat) (o o' : Obj), w.heap.size ≤ l → W.heap[l]? = some o → o.isCells = false → o.isWalk = false → Kp W (W.putObj l o')) (hKa : ∀ (W : World) (o : Obj), Kp W (W.alloc o)) (hps : ∀ x, (encs x).size = ps.size)
    (I : List α → World → Prop) (Ix : Code → List α → World → Prop) (hI : OwnFrom w.heap.size I) (hIx : ∀ c, OwnFrom w.heap.size (Ix c)) (hIs : ∀ p W, I p W → w.heap.size ≤ W.heap.size) (h0 : I [] w) (t : TypeId) (cells : α → Array Value) (A : α → Nat → Act)
    (hassign : ∀ (l q : Nat) (x : α) (W : World) (K : Act → World → Prop), W.heap.size = q → K (A x q) (W.alloc (.cells (cells x) t)) →
      assign.wpIn (F.inRound l) (n - 1 - 1) P (Exit.then K (fun _ _ _ => False)) { tmps := (ps.zip (encs x)).foldl (fun t (p, v) => t.setIfInBounds p v) a.tmps, defers := [] } W)
    (hbody : ∀ (l q : Nat) (pre : List α) (x : α) (W : World), I pre W → w.heap.size ≤ q → Blk W q t (cells x) → pre.length < N → body.wpIn (F.inRound l) (n - 1 - 1) P (ownPostG w.heap.size Kp I Ix (pre ++ [x]) W) (A x q) W)
    (hdone : ∀ (D : Nat) (xs : List α) (W : World), w.heap.size ≤ D → S xs → I xs W → W.heap[D]? = some (.deferred (some [])) → Q .normal { a with defers := { target := .collected D, args := #[] } :: a.defers } W)
    (hstop : ∀ (D : Nat) (c : Code) (pre : List α) (W : World), w.heap.size ≤ D → Sp pre → Ix c pre W → W.heap[D]? = some (.deferred (some [])) → c.wpIn F n P Q { a with defers := { target := .collected D, args := #[] } :: a.defers } W) :
    (Code.rangeFunc g ps assign body).wpIn F n P Q a w :=
  wpIn_rangeFunc_ownH hro h1 hg hFg eg hseq (fun h k => hKt h k) hKb (Below.refl _ _) hps I Ix hI hIx h0 (fun x a' W' => ∃ q, w.heap.size ≤ q ∧ Blk W' q t (cells x) ∧ a' = A x q)
    (fun x a' _ X Y row ⟨q, h1, h2, h3⟩ hg hr => ⟨q, h1, blk_own w.heap.size q t (cells x) () X Y row h2 hg hr, h3⟩)
    (fun l pre x W K hi hK => hassign l _ x W K rfl (hK _ _ (keepsFrom_alloc _ _ _) (hKa _ _) (hI.alloc _ hi) ⟨_, hIs _ _ hi, newB _ _ _ rfl, rfl⟩))
    (fun l pre x a' W _ _ hi ⟨q, h1, h2, h3⟩ hlen => by rw [h3]; exact hbody l q pre x W hi h1 h2 hlen) hdone hstop
end Go.Proofs.YtkakphiofahlgaaDoor
