/- What the law TableRuns holds: Exec on both sides; a pair laid aside and copied. No condition. -/
import Derived.Test.YtifoanmoadogoaaTabR
namespace Go.Proofs.Ytifoanmoadogoaa
open Go.RowKit

/-! The reference's cells, all. -/
def rArr (f : Nat → Sl) : Array Value := (Array.range 96).map fun j => if j % 3 = 0 then .int .i64 (f (j / 3)).x else if j % 3 = 1 then .bool (f (j / 3)).tk else .bool (f (j / 3)).mr
theorem rArr_size (f : Nat → Sl) : (rArr f).size = 96 := by simp [rArr]
theorem rArr_at (f : Nat → Sl) (j : Nat) (hj : j < 96) : (rArr f)[j]? = some (if j % 3 = 0 then .int .i64 (f (j / 3)).x else if j % 3 = 1 then .bool (f (j / 3)).tk else .bool (f (j / 3)).mr) := by
  simp [rArr, hj]
theorem rArr_one (f : Nat → Sl) : (rArr f).all (·.oneCell') = true := by
  rw [Array.all_eq_true]
  intro i hi
  have h1 := rArr_at f i (by rw [rArr_size] at hi; exact hi)
  rw [Array.getElem?_eq_getElem hi] at h1
  rw [Option.some.inj h1]
  split
  · rfl
  · split <;> rfl
theorem RTb.range {w : World} {R : Nat} {f : Nat → Sl} (h : RTb w R f) : w.rangeAt R 0 (rArr f).toList := fun j v hv => by
  rw [Array.getElem?_toList] at hv
  have hj : j < 96 := by
    have := (Array.getElem?_eq_some_iff.1 hv).1
    rwa [rArr_size] at this
  rw [rArr_at f j hj] at hv
  obtain rfl := Option.some.inj hv
  rw [Nat.zero_add]
  have h3 : j % 3 = 0 ∨ j % 3 = 1 ∨ j % 3 = 2 := by omega
  rcases h3 with e | e | e
  · rw [if_pos e]
    have := h.c0 (j / 3) (by omega)
    rwa [show j / 3 * 3 = j by omega] at this
  · rw [if_neg (by omega), if_pos e]
    have := h.c1 (j / 3) (by omega)
    rwa [show j / 3 * 3 + 1 = j by omega] at this
  · rw [if_neg (by omega), if_neg (by omega)]
    have := h.c2 (j / 3) (by omega)
    rwa [show j / 3 * 3 + 2 = j by omega] at this
theorem r_made (w : World) (f : Nat → Sl) : RTb (w.alloc (.cells (rArr f) 61)) w.heap.size f := by
  have hB := heap_made w (.cells (rArr f) 61)
  refine ⟨fun i hi => ?_, fun i hi => ?_, fun i hi => ?_, fun o => by unfold World.frozen?; rw [hB]; simp⟩
  · simp only [World.cell?, hB]
    have : i * 3 % 3 = 0 := by omega
    simp [rArr_at f (i * 3) (by omega)]
  · simp only [World.cell?, hB]
    have h1 : (i * 3 + 1) % 3 = 1 := by omega
    have h2 : (i * 3 + 1) / 3 = i := by omega
    simp [rArr_at f (i * 3 + 1) (by omega), h1, h2]
  · simp only [World.cell?, hB]
    have h1 : (i * 3 + 2) % 3 = 2 := by omega
    have h2 : (i * 3 + 2) / 3 = i := by omega
    simp [rArr_at f (i * 3 + 2) (by omega), h1, h2]
def rZero : Array Value := rArr fun _ => Sl.none
theorem zero61 (w : World) : (zeroValue 61).run Try.prog w = .ok (.agg rZero) w := by kernel_rfl
theorem r_store (w : World) (f : Nat → Sl) : (storeCells ⟨w.heap.size, 0, none⟩ (rArr f).toList).run Try.prog (w.alloc (.cells rZero 61)) = .ok () (w.alloc (.cells (rArr f) 61)) :=
  run_storeCells_new w 61 rZero (rArr f) (by rw [rArr_size]; kernel_rfl) (by rw [rArr_size]; exact rArr_size _) (rArr_one f)

section
variable {n₀ T R m z : Nat} {w0 w w' w1 w2 w3 : World} {f g f' g' : Nat → Sl} {ov rv v : Value} {X : List (Nat × Nat)} {c x d : Int} {b : Bool} {ls : List Int}
theorem InvU.exec (h : InvU n₀ w0 w T R f g ov rv X m c x d b) : Calls Try.prog 36 #[.pointer (some ⟨T, 0, none⟩)] w fun e w' => ∃ v, e = .returned v ∧ rowI w.heap.size w' v (lsP f (upto f 32)) ∧ InvU n₀ w0 w' T R (gP f (upto f 32)) g ov rv X m c x d b :=
  (exec_any w h.i.t).mono fun _ _ ⟨v, he, h1, h2, h3⟩ => ⟨v, he, h1, h.frameT h2 h3⟩
theorem InvU.rexec (h : InvU n₀ w0 w T R f g ov rv X m c x d b) (hr : rowI z w v ls) (hz : R < z) : Calls Try.prog 37 #[.pointer (some ⟨R, 0, none⟩)] w fun e w' => ∃ v', e = .returned v' ∧ rowI w.heap.size w' v' (lsP g (upto g 32)) ∧ rowI z w' v ls ∧ InvU n₀ w0 w' T R f (gP g (upto g 32)) ov rv X m c x d b :=
  (rexec_any w h.i.r).mono fun _ _ ⟨v', he, h1, h2, h3⟩ => ⟨v', he, h1, row_keep hr (fun i hi => h3.block i (row_lt hr hi) (fun e => by have := (hr.lt i hi).1; omega) (fun e => by have := (hr.lt i hi).1; omega)), h.frameR h2 h3⟩
theorem rowI_at (h : rowI z w v ls) {i : Nat} {y : Int} (hy : ls[i]? = some y) : ∃ g q, v = .slice (some ⟨g, 0, none⟩) ls.length q ∧ w.cell? ⟨g, i, none⟩ = some (.int .i64 y) := by
  obtain ⟨hi, _⟩ := List.getElem?_eq_some_iff.1 hy
  rcases h.2 with ⟨rfl, h0⟩ | ⟨g, cap, cur, rfl, hg0, hg, hc, _, hs, htk⟩
  · omega
  · refine ⟨g, cap, rfl, ?_⟩
    have : (cur.toList.take (ls.length * 1))[i]? = some (Value.int .i64 y) := by rw [htk, List.getElem?_map, hy]; rfl
    rw [List.getElem?_take_of_lt (by omega), Array.getElem?_toList] at this
    exact (Blk.cell (show Blk w g 3 cur from hg) i).trans this

theorem grown_keep {e : TypeId} {n : Nat} {xs : List Nat} {bs : Nat} (hr : w.ownsRow bs e 1 v n (xs.map fun x => .pointer (some ⟨x, 0, none⟩))) (hn : ∀ g, v.ownBlock = some g → xs ≠ []) (hg : w.grownBy w' v.ownBlock) (k : Nat) (hk : k < w.heap.size) (hp : ∀ p, w.cell? ⟨k, 0, none⟩ ≠ some (.pointer p)) : w'.heap[k]? = w.heap[k]? :=
  hg.block k hk (fun e => by
    obtain ⟨p, h⟩ := row_ptr hr (hn k e.symm) e.symm
    exact hp p h)
theorem TabAt.nop (h : TabAt w T f) (p : Option Addr) : w.cell? ⟨T, 0, none⟩ ≠ some (.pointer p) := fun e => by
  have := h.c0 0 (by omega)
  rw [e] at this
  simp at this
theorem RTb.nop (h : RTb w R f) (p : Option Addr) : w.cell? ⟨R, 0, none⟩ ≠ some (.pointer p) := fun e => by
  have := h.c0 0 (by omega)
  rw [e] at this
  simp at this
theorem row_grown2 {bs bs' : Nat} {e e' : TypeId} {s s' n n' : Nat} {v v' : Value} {xs xs' : List Value} (hr : w.ownsRow bs e s v n xs) (hr' : w.ownsRow bs' e' s' v' n' xs') (hee : e ≠ e') (hg : w.grownBy w' v'.ownBlock) : w'.ownsRow bs e s v n xs :=
  row_keep hr (fun g hgg => hg.block g (row_lt hr hgg) (row_row hee hr hr' hgg))

/-- A pair is laid aside; the other ones that are made stand in its place. -/
theorem InvU.push {a1 a2 : Option Addr} {c1 c2 : Nat} (h : InvU n₀ w0 w T R f f ov rv X m c x d b) (hX : X.length < 5)
    (r1 : w1.ownsRow n₀ 54 1 (.slice a1 (X.length + 1) c1) (X.length + 1) (((X.map (·.1)).map fun x => .pointer (some ⟨x, 0, none⟩)) ++ [.pointer (some ⟨T, 0, none⟩)])) (g1 : ((w.alloc (.cells (rArr f) 61)).alloc (.cells #[.pointer (some ⟨T, 0, none⟩)] 54)).grownBy w1 ov.ownBlock)
    (r2 : w2.ownsRow n₀ 56 1 (.slice a2 (X.length + 1) c2) (X.length + 1) (((X.map (·.2)).map fun x => .pointer (some ⟨x, 0, none⟩)) ++ [.pointer (some ⟨R, 0, none⟩)])) (g2 : (w1.alloc (.cells #[.pointer (some ⟨R, 0, none⟩)] 56)).grownBy w2 rv.ownBlock)
    (ht : TabAt w3 w2.heap.size f) (hb : Below w2.heap.size w2 w3) :
    InvU n₀ w0 w3 w2.heap.size w.heap.size f f (.slice a1 (X.length + 1) c1) (.slice a2 (X.length + 1) c2) (X ++ [(T, R)]) m c x d b := by
  have hn := h.i.size
  have hk0 : Below w.heap.size w (w.alloc (.cells (rArr f) 61)) := (Below.refl _ _).alloc (Nat.le_refl _) _
  have hkA : Below w.heap.size w ((w.alloc (.cells (rArr f) 61)).alloc (.cells #[.pointer (some ⟨T, 0, none⟩)] 54)) := hk0.alloc (by simp) _
  have hA := h.below hkA
  have hR' : RTb ((w.alloc (.cells (rArr f) 61)).alloc (.cells #[.pointer (some ⟨T, 0, none⟩)] 54)) w.heap.size f := (r_made w f).keep (Below.heap_alloc _ _ _ (by simp))
  have sA : w.heap.size + 2 ≤ w1.heap.size := by have := g1.size; simpa using this
  have sB : w1.heap.size + 1 ≤ w2.heap.size := by have := g2.size; simpa using this
  have k1 : ∀ k, k < ((w.alloc (.cells (rArr f) 61)).alloc (.cells #[.pointer (some ⟨T, 0, none⟩)] 54)).heap.size → (∀ p, ((w.alloc (.cells (rArr f) 61)).alloc (.cells #[.pointer (some ⟨T, 0, none⟩)] 54)).cell? ⟨k, 0, none⟩ ≠ some (.pointer p)) → w1.heap[k]? = ((w.alloc (.cells (rArr f) 61)).alloc (.cells #[.pointer (some ⟨T, 0, none⟩)] 54)).heap[k]? := fun k hk hp => grown_keep hA.i.o.o (fun g hg => ne_map (hA.i.o.on g hg)) g1 k hk hp
  have rB : (w1.alloc (.cells #[.pointer (some ⟨R, 0, none⟩)] 56)).ownsRow n₀ 56 1 rv X.length ((X.map (·.2)).map fun x => .pointer (some ⟨x, 0, none⟩)) := (row_grown2 hA.i.o.r hA.i.o.o (by decide) g1).alloc _
  have k2 : ∀ k, k < w1.heap.size → (∀ p, w1.cell? ⟨k, 0, none⟩ ≠ some (.pointer p)) → w3.heap[k]? = w1.heap[k]? := fun k hk hp => by
    have e1 : (w1.alloc (.cells #[.pointer (some ⟨R, 0, none⟩)] 56)).heap[k]? = w1.heap[k]? := Below.heap_alloc _ _ _ hk
    have e2 := grown_keep rB (fun g hg => ne_map (h.i.o.rn g hg)) g2 k (by rw [World.size_alloc]; omega) (fun p hp' => hp p (by rw [← hp']; exact (World.cell?_of_block (w := w1) (a := ⟨k, 0, none⟩) e1).symm))
    exact (hb.block k (by omega)).trans (e2.trans e1)
  have tk : ∀ {T' : Nat} {f' : Nat → Sl}, TabAt ((w.alloc (.cells (rArr f) 61)).alloc (.cells #[.pointer (some ⟨T, 0, none⟩)] 54)) T' f' → TabAt w3 T' f' := fun ht => by
    have h1 := ht.keep (k1 _ ht.lt ht.nop)
    exact h1.keep (k2 _ h1.lt h1.nop)
  have rk : ∀ {R' : Nat} {f' : Nat → Sl}, RTb ((w.alloc (.cells (rArr f) 61)).alloc (.cells #[.pointer (some ⟨T, 0, none⟩)] 54)) R' f' → RTb w3 R' f' := fun ht => by
    have h1 := ht.keep (k1 _ ht.lt ht.nop)
    exact h1.keep (k2 _ h1.lt h1.nop)
  have bel : Below n₀ w w3 := by
    have e1 : Below n₀ ((w.alloc (.cells (rArr f) 61)).alloc (.cells #[.pointer (some ⟨T, 0, none⟩)] 54)) w1 := ⟨g1.os, g1.tape, g1.output, g1.size, fun i hi => g1.block i (by simp; omega) (fun e => by have := (h.i.o.o.lt i e.symm).1; omega)⟩
    have e2 : Below n₀ (w1.alloc (.cells #[.pointer (some ⟨R, 0, none⟩)] 56)) w2 := ⟨g2.os, g2.tape, g2.output, g2.size, fun i hi => g2.block i (by simp; omega) (fun e => by have := (rB.lt i e.symm).1; omega)⟩
    exact ((((hkA.mono hn).trans e1).alloc (by omega) _).trans e2).trans (hb.mono (by omega))
  have r1' := row_beneath (row_grown2 (r1.alloc (.cells #[.pointer (some ⟨R, 0, none⟩)] 56)) rB (by decide) g2) hb
  have r2' := row_beneath r2 hb
  have hmk : Blk w1 m 65 _ := (k1 m hA.k.lt (fun p e => by have := hA.k.cell 0; rw [e] at this; simp at this)).trans hA.k
  have hmk3 : Blk w3 m 65 _ := (k2 m hmk.lt (fun p e => by have := hmk.cell 0; rw [e] at this; simp at this)).trans hmk
  have hsz3 : w2.heap.size ≤ w3.heap.size := hb.size
  refine ⟨⟨ht, rk hR', ⟨?_, ?_, fun _ _ => by simp, fun _ _ => by simp, fun y hy => ?_, by rw [List.length_append]; simp; omega⟩, h.i.b.trans bel, by omega, hn⟩, hmk3⟩
  · rw [List.map_append, List.map_append, List.length_append]
    exact r1'
  · rw [List.map_append, List.map_append, List.length_append]
    exact r2'
  · rcases List.mem_append.1 hy with hy | hy
    · obtain ⟨⟨f', h1, h2⟩, _⟩ := hA.i.o.all y hy
      obtain ⟨⟨f0, h3, h4⟩, _⟩ := h.i.o.all y hy
      exact ⟨⟨f', tk h1, rk h2⟩, by have := h3.lt; omega, by have := h4.lt; omega⟩
    · obtain rfl : y = (T, R) := by simpa using hy
      exact ⟨⟨f, tk hA.i.t, rk hA.i.r⟩, by have := h.i.t.lt; show T ≠ _; omega, by have := h.i.r.lt; show R ≠ _; omega⟩
end
end Go.Proofs.Ytifoanmoadogoaa
