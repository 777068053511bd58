/- A range over a function whose iterator has blocks of its own: a law of the statement. The iterator tells which blocks are its own (T); the body leaves them as they lay; the caller's invariant abides what the iterator does to them. So an iterator may itself range over an iterator. No condition. -/
import Derived.Test.YtjbmpockoicgmaaGreatFlA
import Derived.RangeFuncNested
import Derived.RangeFuncBound
import Derived.RangeFuncLeaves
import Derived.RangeFuncCalls
namespace Go.Proofs.YtjbmpockoicgmaaGreat
open Go.RowKit

/-- What an iterator may do between two rounds: turn its own blocks, and make new ones. -/
structure Ext (T : List Nat) (A : World) (T' : List Nat) (B : World) : Prop where
  os : B.os = A.os
  tape : B.tape = A.tape
  output : B.output = A.output
  size : A.heap.size ≤ B.heap.size
  block : ∀ k, k < A.heap.size → k ∉ T → B.heap[k]? = A.heap[k]?
  new : ∀ k, k ∈ T' → k ∈ T ∨ (A.heap.size ≤ k ∧ k < B.heap.size)

theorem Ext.refl (T : List Nat) (A : World) : Ext T A T A := ⟨rfl, rfl, rfl, Nat.le_refl _, fun _ _ _ => rfl, fun _ h => .inl h⟩
theorem Ext.cons {T T' : List Nat} {A B : World} (h : Ext T A T' B) (j : Nat) : Ext (j :: T) A (j :: T') B :=
  ⟨h.os, h.tape, h.output, h.size, fun k hk hj => h.block k hk (fun e => hj (List.mem_cons_of_mem _ e)), fun k hk => by
    rcases List.mem_cons.1 hk with rfl | hk
    · exact .inl (List.mem_cons_self ..)
    · rcases h.new k hk with e | e
      · exact .inl (List.mem_cons_of_mem _ e)
      · exact .inr e⟩
theorem Ext.below {T : List Nat} {A B : World} (h : Below A.heap.size A B) : Ext T A T B := ⟨h.os, h.tape, h.output, h.size, fun k hk _ => h.block k hk, fun _ h => .inl h⟩
theorem Ext.put {T : List Nat} {A : World} {l : Nat} (hl : l ∈ T) (o : Obj) : Ext T A T (A.putObj l o) :=
  ⟨rfl, rfl, rfl, by simp [World.putObj], fun k _ hk => World.putObj_heap_other (fun e => hk (e ▸ hl)), fun _ h => .inl h⟩

/-- The iterator's own blocks lie as they lay. -/
structure Keeps (T : List Nat) (A B : World) : Prop where
  size : A.heap.size ≤ B.heap.size
  block : ∀ k, k ∈ T → k < A.heap.size → B.heap[k]? = A.heap[k]?

/-- An invariant abides what the iterator does. -/
def Abide {α : Type} (I : List Nat → List α → World → Prop) : Prop := ∀ T T' pre A B, I T pre A → Ext T A T' B → I T' pre B

/-- The contract of an iterator with blocks of its own. -/
def SeqT {α : Type} (F : Fence) (n : Nat) (P : Program) (g : Nat) (lb : Array Value) (encs : α → Array Value) (Kp : List α → α → World → World → Prop) (S Sp : List α → Prop) (T0 : List Nat) (w : World) : Prop :=
  ∀ (l : Nat) (J Jx : List Nat → List α → World → Prop) (W : World), Below w.heap.size w W → Abide J → Abide Jx →
    (∀ T pre x W1, Sp (pre ++ [x]) → J T pre W1 → YieldAt F (n - 1) P l (encs x) W1 fun e W' =>
      (e = .returned (.bool true) ∧ J T (pre ++ [x]) W' ∧ Keeps T W1 W' ∧ Kp pre x W1 W') ∨ (e = .returned (.bool false) ∧ Jx T (pre ++ [x]) W' ∧ Keeps T W1 W')) →
    J T0 [] W →
    CallsIn F n P g (#[.func (.yield l) #[] #[]] ++ lb) W fun e W' => (∃ v, e = .returned v) ∧ ((∃ T xs, S xs ∧ J T xs W') ∨ (∃ T pre, Sp pre ∧ Jx T pre W'))

/-- How a body ends. -/
def postT {α : Type} (Kp : World → World → Prop) (I : List Nat → List α → World → Prop) (Ix : Code → List Nat → List α → World → Prop) (T : List Nat) (xs : List α) (W : World) : Exit → Act → World → Prop
  | .normal, _, W' => I T xs W' ∧ Keeps T W W' ∧ Kp W W'
  | .ret, _, W' => Ix .ret T xs W' ∧ Keeps T W W'
  | .exit id, _, W' => Ix (.exit id) T xs W' ∧ Keeps T W W'
  | .goto t, _, W' => Ix (.goto t) T xs W' ∧ Keeps T W W'
  | .panic _, _, _ => False
  | .outgrown, _, _ => False

variable {F : Fence} {n : Nat} {P : Program}

theorem range_law {α : Type} {g : Operand} {ps : Array Tmp} {assign body : Code} {Q : Exit → Act → World → Prop} {a : Act} {w : World}
    (hro : F.round = none) (h1 : 1 ≤ n) {gf : Nat} {lb : Array Value} (hg : a.eval g = .func (.func gf) #[] lb) (hFg : F.fn gf) (eg : ∀ args w, (callFunc gf args).run P w = .ok (.enter gf args) w)
    {encs : α → Array Value} {Kp : List α → α → World → World → Prop} {S Sp : List α → Prop} {T0 : List Nat} {w0 : World} (hseq : SeqT F (n - 1) P gf lb encs Kp S Sp T0 w0) (hT0 : ∀ k ∈ T0, k < w.heap.size)
    (hKb : ∀ pre x (A B : World) (k : Nat) (o o' : Obj), w.heap.size ≤ k → Kp pre x (A.putObj k o) B → Kp pre x A (B.putObj k o')) (hb0 : Below w0.heap.size w0 w) (hps : ∀ x, (encs x).size = ps.size)
    (I : List Nat → List α → World → Prop) (Ix : Code → List Nat → List α → World → Prop) (hI : Abide I) (hIx : ∀ c, Abide (Ix c)) (h0 : I T0 [] w) (a₁ : α → World → Act) (W₁ : α → World → World) (hW₁ : ∀ x W, Below W.heap.size W (W₁ x W)) (hKa : ∀ pre x A B, Kp pre x (W₁ x A) B → Kp pre x A B)
    (hassign : ∀ (l : Nat) (x : α) (W : World) (K : Act → World → Prop), K (a₁ x W) (W₁ x W) →
      assign.wpIn (F.inRound l) (n - 1 - 1) P (Exit.then K (fun _ _ _ => False)) { tmps := (ps.zip (encs x)).foldl (fun t (p, v) => t.setIfInBounds p v) a.tmps, defers := [] } W)
    (hbody : ∀ (l : Nat) (T : List Nat) (pre : List α) (x : α) (W W' : World) (o : Obj), Sp (pre ++ [x]) → I T pre W → l < W.heap.size → W' = (W₁ x W).putObj l o → I T pre W' → body.wpIn (F.inRound l) (n - 1 - 1) P (postT (Kp pre x) I Ix T (pre ++ [x]) W') (a₁ x W) W')
    (hdone : ∀ (D : Nat) (T : List Nat) (xs : List α) (W : World), w.heap.size ≤ D → D ∈ T → S xs → I T xs W → W.heap[D]? = some (.deferred (some [])) → Q .normal { a with defers := { target := .collected D, args := #[] } :: a.defers } W)
    (hstop : ∀ (D : Nat) (c : Code) (T : List Nat) (pre : List α) (W : World), w.heap.size ≤ D → D ∈ T → Sp pre → Ix c T pre W → W.heap[D]? = some (.deferred (some [])) → c.wpIn F n P Q { a with defers := { target := .collected D, args := #[] } :: a.defers } W) :
    (Code.rangeFunc g ps assign body).wpIn F n P Q a w := by
  refine wpIn_rangeFunc ?_
  intro fn hfn
  rw [hro]
  obtain ⟨d, hd⟩ : ∃ d, w.heap.size = d := ⟨_, rfl⟩
  obtain ⟨rec, hrec⟩ : ∃ rec : LoopState → Option Code → Loop, rec = fun st pe => { state := st, pending := pe, fn, tmps := a.tmps, params := ps, assign, body, defers := w.heap.size } := ⟨_, rfl⟩
  obtain ⟨W1, hW1⟩ : ∃ W1, (w.alloc (.deferred (some []))).alloc (.loop (rec .ready none)) = W1 := ⟨_, rfl⟩
  have hs1 : W1.heap.size = d + 2 := by rw [← hW1, ← hd]; simp
  have hL1 : W1.heap[d + 1]? = some (.loop (rec .ready none)) := by
    rw [← hW1, ← hd]
    have := World.alloc_heap_new (w.alloc (.deferred (some []))) (.loop (rec .ready none))
    rwa [World.size_alloc] at this
  have hD1 : W1.heap[d]? = some (.deferred (some [])) := by
    rw [← hW1, ← hd]
    exact (Below.heap_alloc _ _ _ (by simp)).trans (World.alloc_heap_new w _)
  have hbel : Below w.heap.size w W1 := by rw [← hW1]; exact ((Below.refl _ w).alloc (Nat.le_refl _) _).alloc (by simp) _
  have hI1 : I ((d + 1) :: d :: T0) [] W1 := hI _ _ _ _ _ h0 ⟨hbel.os, hbel.tape, hbel.output, hbel.size, fun k hk _ => hbel.block k hk, fun k hk => by
    rcases List.mem_cons.1 hk with rfl | hk
    · exact .inr (by omega)
    · rcases List.mem_cons.1 hk with rfl | hk
      · exact .inr (by omega)
      · exact .inl hk⟩
  refine ⟨d + 1, [{ target := .collected d, args := #[] }], W1, { target := .fn (.func gf) lb, args := #[.func (.yield (d + 1)) #[] #[]] }, W1, gf, #[.func (.yield (d + 1)) #[] #[]] ++ lb, W1, ?_, ?_, ?_, ?_, fun _ => h1, ?_⟩
  · rw [← hW1, hrec, ← hd]; exact run_enterLoop_outer _ _ _ _ _
  · simp only [resolve, hg]
    simp [go_sem]
  · intro f' hf'; simp [Target.leads] at hf'; subst hf'; exact hFg
  · simp [invoke, go_sem, eg]
  have hb1 : Below w0.heap.size w0 W1 := hb0.trans (hbel.mono hb0.size)
  have keepRec : ∀ {T T' : List Nat} {A B : World} {st : Loop}, Ext T A T' B → A.heap[d + 1]? = some (.loop st) → A.heap[d]? = some (.deferred (some [])) → (∀ k ∈ T, k ≠ d ∧ k ≠ d + 1) →
      B.heap[d + 1]? = some (.loop st) ∧ B.heap[d]? = some (.deferred (some [])) ∧ ∀ k ∈ T', k ≠ d ∧ k ≠ d + 1 := fun {T T' A B st} he hl hk hT => by
    have hlt := (Array.getElem?_eq_some_iff.1 hl).1
    refine ⟨(he.block (d + 1) hlt (fun e => by have := hT _ e; omega)).trans hl, (he.block d (by omega) (fun e => by have := hT _ e; omega)).trans hk, fun k hk => ?_⟩
    rcases he.new k hk with e | e
    · exact hT k e
    · omega
  refine (hseq (d + 1)
    (fun T pre W => I ((d + 1) :: d :: T) pre W ∧ W.heap[d + 1]? = some (.loop (rec .ready none)) ∧ W.heap[d]? = some (.deferred (some [])) ∧ ∀ k ∈ T, k ≠ d ∧ k ≠ d + 1)
    (fun T pre W => ∃ c, Ix c ((d + 1) :: d :: T) pre W ∧ W.heap[d + 1]? = some (.loop (rec .done (some c))) ∧ W.heap[d]? = some (.deferred (some [])) ∧ ∀ k ∈ T, k ≠ d ∧ k ≠ d + 1)
    W1 hb1
    (fun T T' pre A B hs he => by
      obtain ⟨hi, hl, hk, hT⟩ := hs
      exact ⟨hI _ _ _ _ _ hi ((he.cons d).cons (d + 1)), keepRec he hl hk hT⟩)
    (fun T T' pre A B hs he => by
      obtain ⟨c, hi, hl, hk, hT⟩ := hs
      exact ⟨c, hIx c _ _ _ _ _ hi ((he.cons d).cons (d + 1)), keepRec he hl hk hT⟩)
    ?_ ⟨hI1, hL1, hD1, fun k hk => by have := hT0 k hk; omega⟩).mono ?_
  · rintro T pre x W hsp ⟨hi, hl, hk, hT⟩
    have hlt : d + 1 < W.heap.size := (Array.getElem?_eq_some_iff.1 hl).1
    have hy := run_yield (P := P) (args := encs x) hl (by rw [hrec]; exact hps x)
    rw [hrec] at hy
    have hx1 := hW₁ x W
    have hlx : (W₁ x W).heap[d + 1]? = some (.loop (rec .ready none)) := (hx1.block _ hlt).trans hl
    have hltx : d + 1 < (W₁ x W).heap.size := (Array.getElem?_eq_some_iff.1 hlx).1
    refine ⟨fn, _, assign, body, hy, roundIn_of_wpIn hfn (hassign _ x W _ ⟨_, run_beginRound hlx (by rw [hrec]), ?_⟩)⟩
    obtain ⟨Wb, hWb⟩ : ∃ Wb, (W₁ x W).putObj (d + 1) (.loop { rec .ready none with state := .busy }) = Wb := ⟨_, rfl⟩
    have hl2 : Wb.heap[d + 1]? = some (.loop { rec .ready none with state := .busy }) := by rw [← hWb]; exact World.putObj_heap_same hltx
    have hfar : ∀ k, k < W.heap.size → k ≠ d + 1 → Wb.heap[k]? = W.heap[k]? := fun k hks hk => by rw [← hWb]; exact (World.putObj_heap_other hk).trans (hx1.block k hks)
    have hk2 : Wb.heap[d]? = some (.deferred (some [])) := (hfar d (by omega) (by omega)).trans hk
    have hsb : W.heap.size ≤ Wb.heap.size := by rw [← hWb]; have := hx1.size; simpa [World.putObj] using this
    have hib : I ((d + 1) :: d :: T) pre Wb := by rw [← hWb]; exact hI _ _ _ _ _ (hI _ _ _ _ _ hi (.below hx1)) (.put (List.mem_cons_self ..) _)
    rw [hWb]
    refine wpIn_mono (hbody _ ((d + 1) :: d :: T) pre x W Wb _ hsp hi hlt hWb.symm hib) ?_
    have fin : ∀ (jump : Option Code) (W3 : World), Keeps ((d + 1) :: d :: T) Wb W3 →
        (Instr.endRound (d + 1) jump).run P W3 = .ok (.bool jump.isNone) (W3.putObj (d + 1) (.loop (rec (if jump.isNone then .ready else .done) jump))) ∧
        (W3.putObj (d + 1) (.loop (rec (if jump.isNone then .ready else .done) jump))).heap[d + 1]? = some (.loop (rec (if jump.isNone then .ready else .done) jump)) ∧
        (W3.putObj (d + 1) (.loop (rec (if jump.isNone then .ready else .done) jump))).heap[d]? = some (.deferred (some [])) ∧
        Keeps T W (W3.putObj (d + 1) (.loop (rec (if jump.isNone then .ready else .done) jump))) := fun jump W3 hk3 => by
      have hl3 := (hk3.block (d + 1) (List.mem_cons_self ..) (by omega)).trans hl2
      have hd3 := (hk3.block d (List.mem_cons_of_mem _ (List.mem_cons_self ..)) (by omega)).trans hk2
      have := run_endRound (P := P) jump hl3
      rw [hrec] at this ⊢
      refine ⟨this, World.putObj_heap_same (Array.getElem?_eq_some_iff.1 hl3).1, (World.putObj_heap_other (by omega)).trans hd3, ?_, fun k hk hks => ?_⟩
      · have := hk3.size
        simp [World.putObj]
        omega
      · have hkd : k ≠ d + 1 := fun e => by have := hT k hk; omega
        exact (World.putObj_heap_other hkd).trans ((hk3.block k (List.mem_cons_of_mem _ (List.mem_cons_of_mem _ hk)) (by omega)).trans (hfar k hks hkd))
    rintro e a3 W3 hp
    cases e with
    | normal =>
      obtain ⟨hi3, hk3, hkp3⟩ := hp
      obtain ⟨hr, hl4, hd4, hk4⟩ := fin none W3 hk3
      refine ⟨_, _, hr, .inl ⟨rfl, ⟨hI _ _ _ _ _ hi3 (.put (List.mem_cons_self ..) _), hl4, hd4, hT⟩, hk4, ?_⟩⟩
      rw [← hWb] at hkp3
      exact hKa pre x W _ (hKb pre x (W₁ x W) W3 (d + 1) _ _ (by omega) hkp3)
    | ret =>
      obtain ⟨hi3, hk3⟩ := hp
      obtain ⟨hr, hl4, hd4, hk4⟩ := fin (some .ret) W3 hk3
      exact ⟨_, _, hr, .inr ⟨rfl, ⟨.ret, hIx _ _ _ _ _ _ hi3 (.put (List.mem_cons_self ..) _), hl4, hd4, hT⟩, hk4⟩⟩
    | exit id =>
      obtain ⟨hi3, hk3⟩ := hp
      obtain ⟨hr, hl4, hd4, hk4⟩ := fin (some (.exit id)) W3 hk3
      exact ⟨_, _, hr, .inr ⟨rfl, ⟨.exit id, hIx _ _ _ _ _ _ hi3 (.put (List.mem_cons_self ..) _), hl4, hd4, hT⟩, hk4⟩⟩
    | goto c =>
      obtain ⟨hi3, hk3⟩ := hp
      obtain ⟨hr, hl4, hd4, hk4⟩ := fin (some (.goto c)) W3 hk3
      exact ⟨_, _, hr, .inr ⟨rfl, ⟨.goto c, hIx _ _ _ _ _ _ hi3 (.put (List.mem_cons_self ..) _), hl4, hd4, hT⟩, hk4⟩⟩
    | panic ch => exact hp.elim
    | outgrown => exact hp.elim
  · rintro e W2 ⟨⟨v, rfl⟩, (⟨T, xs, hS, hi, hl, hk, hT⟩ | ⟨T, pre, hSp, c, hi, hl, hk, hT⟩)⟩
    · exact ⟨none, _, by have := run_endLoop (P := P) hl (by rw [hrec]; simp); rw [hrec] at this; exact this,
        hdone d ((d + 1) :: d :: T) xs _ (by omega) (List.mem_cons_of_mem _ (List.mem_cons_self ..)) hS (hI _ _ _ _ _ hi (.put (List.mem_cons_self ..) _)) ((World.putObj_heap_other (by omega)).trans hk)⟩
    · exact ⟨some c, _, by have := run_endLoop (P := P) hl (by rw [hrec]; simp); rw [hrec] at this; exact this,
        hstop d c ((d + 1) :: d :: T) pre _ (by omega) (List.mem_cons_of_mem _ (List.mem_cons_self ..)) hSp (hIx c _ _ _ _ _ hi (.put (List.mem_cons_self ..) _)) ((World.putObj_heap_other (by omega)).trans hk)⟩

end Go.Proofs.YtjbmpockoicgmaaGreat
