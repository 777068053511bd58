/- The iterator's contract; what the loop of Fields keeps. Condition: lengths. -/
import Derived.Test.YtlaidmjlgjpgcaaSplF
namespace Go.Proofs.Ytlaidmjlgjpgcaa
open Go.RowKit Go.Shelf Go.PlainAid
attribute [local go_sem] Oper.semAt_some

set_option maxHeartbeats 400000 in
theorem bytes_any (av : Option Addr) (n cv : Nat) (ifs : ByteArray) (w : World) : Calls Try.prog 38 #[.slice av n cv, .string ifs] w fun e w' => e = .returned (.func (.func 53) #[] #[.pointer (some ⟨w.heap.size, 0, none⟩), .pointer (some ⟨w.heap.size + 1, 0, none⟩)]) ∧ w' = (w.alloc (.cells #[.slice av n cv] 37)).alloc (.cells #[.string ifs] 9) := by
  go_enter Try.func38, Try.ntmps38
  go_wp2
  go_ret
  exact ⟨rfl, rfl⟩

theorem bytes_stops (n : Nat) (hn : 1 ≤ n) (Bl Bi n₀ N : Nat) (ifs : ByteArray) (av : Option Addr) (cv : Nat) (ps : List Pc) (hN : (partsOf ifs ps).length ≤ N) (hlen : ps.length ≤ 9223372036854775807) (w : World)
    (hBl : Boxed w Bl 37 (.slice av ps.length cv)) (hBi : Boxed w Bi 9 (.string ifs)) (hP : PcsAt n₀ w av ps) (hn₀ : n₀ ≤ w.heap.size) :
    SeqStopsK Fence.wide n Try.prog 53 #[.pointer (some ⟨Bl, 0, none⟩), .pointer (some ⟨Bi, 0, none⟩)] encP (KeepP n₀) (fun xs => xs = partsOf ifs ps) (fun pre => pre <+: partsOf ifs ps) N w := by
  intro l J Jx W hW hJ _ hY h0
  exact bytes53_in n hn l Bl Bi n₀ N ifs av cv ps hN hlen J Jx hY W (fun s W o h => hJ s W _ none h (World.grownBy_alloc W o none) (fun r e => by cases e))
    (fun s W m h => hJ s W _ none h ⟨rfl, rfl, rfl, Nat.le_refl _, fun _ _ _ => rfl⟩ (fun r e => by cases e))
    ((hW.block Bl hBl.lt).trans hBl) ((hW.block Bi hBi.lt).trans hBi) (hP.below (hW.mono hn₀)) (Nat.le_trans hn₀ hW.size) h0

/-- Two worlds agree on all blocks of cells of the one. -/
def Same (X Y : World) : Prop := ∀ (B : Nat) (cs : Array Value) (t : TypeId) (fr : Nat × Nat), X.heap[B]? = some (.cells cs t fr) → Y.heap[B]? = X.heap[B]?
theorem same_of {X Y : World} {row : Option Nat} (hg : X.grownBy Y row) (hr : ∀ r, row = some r → ∃ o : Obj, X.heap[r]? = some o ∧ o.isCells = false) : Same X Y := fun B cs t fr hB =>
  hg.block B (Array.getElem?_eq_some_iff.1 hB).1 (fun e => by obtain ⟨o, ho, hc⟩ := hr B e.symm; rw [hB] at ho; cases ho; cases hc)
theorem own_same {w w1 : World} {base : Nat} {e : TypeId} {size : Nat} {v : Value} {n : Nat} {xs : List Value} (h : w.ownsRow base e size v n xs) (hs : Same w w1) : w1.ownsRow base e size v n xs := by
  refine own_blk h (fun g hg => ?_)
  rcases h.2 with ⟨rfl, _⟩ | ⟨g1, cap, cur, rfl, _, hb, _⟩
  · simp [Value.ownBlock] at hg
  · obtain rfl : g1 = g := by simpa [Value.ownBlock] using hg
    exact hs _ _ _ _ hb
theorem MkAt.same {n₀ mb : Nat} {m : Mk} {vf vc : Value} {sl : List Value} {X Y : World} (h : MkAt n₀ mb m vf vc sl X) (hs : Same X Y) : MkAt n₀ mb m vf vc sl Y := by
  obtain ⟨cs, fr, ht⟩ := h.ty
  have hm := hs _ _ _ _ ht
  have cc : ∀ i, Y.cell? ⟨mb, i, none⟩ = X.cell? ⟨mb, i, none⟩ := fun i => by simp only [World.cell?, hm]
  refine ⟨(cc 0).trans h.c0, (cc 1).trans h.c1, (cc 2).trans h.c2, (cc 3).trans h.c3, fun i => by simp only [World.frozen?, hm]; exact h.fz i, ⟨cs, fr, hm.trans ht⟩, h.hb, own_same h.rf hs, own_same h.rc hs, h.sls.1, fun j v f h1 h2 => ?_⟩
  have := h.sls.2 j v f h1 h2
  exact ⟨own_same this.1 hs, this.2⟩

/-- The state behind these parts, none of them too much. -/
def Ran (pre : List Pr) (m : Mk) : Prop := go mk0 (pre.map ptOf) = some m ∧ m.big = false
theorem go_snoc (l : List Pt) (p : Pt) : ∀ m m', go m l = some m' → go m (l ++ [p]) = bif (m'.step p).big then none else some (m'.step p) := by
  induction l with
  | nil => intro m m' h; cases h; rw [List.nil_append, go]; rfl
  | cons q r ih =>
    intro m m' h
    rw [List.cons_append, go]
    rw [go] at h
    cases hb : (m.step q).big
    · rw [hb] at h; exact ih _ _ h
    · rw [hb] at h; cases h
theorem Ran.nil : Ran [] mk0 := ⟨rfl, rfl⟩
theorem Ran.next {pre : List Pr} {m : Mk} (h : Ran pre m) {x : Pr} (hb : (m.step (ptOf x)).big = false) : Ran (pre ++ [x]) (m.step (ptOf x)) := by
  refine ⟨?_, hb⟩
  rw [List.map_append]
  have := go_snoc (pre.map ptOf) (ptOf x) _ _ h.1
  rw [hb] at this
  exact this
theorem go_append_none (l r : List Pt) : ∀ m, go m l = none → go m (l ++ r) = none := by
  induction l with
  | nil => intro m h; cases h
  | cons q l ih =>
    intro m h
    rw [List.cons_append, go]
    rw [go] at h
    cases hb : (m.step q).big
    · rw [hb] at h; exact ih _ h
    · rfl
theorem Ran.over {pre : List Pr} {m : Mk} (h : Ran pre m) {x : Pr} (hb : (m.step (ptOf x)).big = true) : go mk0 ((pre ++ [x]).map ptOf) = none := by
  rw [List.map_append]
  have := go_snoc (pre.map ptOf) (ptOf x) _ _ h.1
  rw [hb] at this
  exact this
theorem big_len {m : Mk} (h : m.big = false) : m.fs.length ≤ 200 ∧ m.f.length ≤ 4096 := by
  unfold Mk.big at h
  have := Bool.or_eq_false_iff.1 h
  exact ⟨by have := of_decide_eq_false this.1; omega, by have := of_decide_eq_false this.2; omega⟩

/-- A list of fields, made since n₀. -/
def FlsAt (n₀ : Nat) (w : World) (v : Value) (L : List (List Ch)) : Prop :=
  ∃ sl, w.ownsRow n₀ 22 1 v L.length sl ∧ sl.length = L.length ∧ ∀ (j : Nat) (u : Value) (f : List Ch), sl[j]? = some u → L[j]? = some f → w.ownsRow n₀ 33 2 u f.length (chv f)
/-- What Fields answers. -/
def FieldsR (n₀ : Nat) (r : Option (List (List Ch))) (w : World) (e : Ending) (w' : World) : Prop :=
  Below n₀ w w' ∧ ((∃ L v, r = some L ∧ e = .returned (.tuple #[v, .int .i64 0]) ∧ FlsAt n₀ w' v L) ∨ (r = none ∧ e = .returned (.tuple #[.slice none 0 0, .int .i64 66])))

end Go.Proofs.Ytlaidmjlgjpgcaa
