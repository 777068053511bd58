/- The plain model of a pipe (its size, its ends, the bytes that it holds), the ring and the pipe in memory, and what stores do to them. No walk; no condition. -/
import Derived.Test.YtifoanmoadogoaaProg
import Derived.WalkKit
import Derived.WalkSpells
import Derived.WalkLawsBesides
import Derived.Deep.Draws
import Derived.WalkSmall
namespace Go.Proofs.Ytifoanmoadogoaa
open Go.RowKit

/-- A pipe, plainly. -/
structure St where
  size : Nat
  r : Nat
  t : Nat
  data : List UInt8

def St.opened (s : St) : Bool → St
  | true => { s with t := s.t + 1 }
  | false => { s with r := s.r + 1 }
def St.closes (s : St) : Bool → Bool
  | true => decide (0 < s.t)
  | false => decide (0 < s.r)
def St.closed (s : St) : Bool → St
  | true => { s with t := s.t - 1 }
  | false => { s with r := s.r - 1 }
def St.closeErr (s : St) (b : Bool) : Int := if s.closes b then 0 else 9
def St.waits (s : St) : Bool → Bool
  | true => decide (0 < s.r) && decide (s.data.length = s.size)
  | false => decide (0 < s.t) && decide (s.data.length = 0)
/-- How many bytes of x go in. -/
def St.wrote (s : St) (x : List UInt8) : Nat := if s.r = 0 then 0 else min x.length (s.size - s.data.length)
def St.writeErr (s : St) (x : List UInt8) : Int := if s.r = 0 then 32 else if x = [] then 0 else if s.size = s.data.length then 11 else 0
def St.written (s : St) (x : List UInt8) : St := { s with data := s.data ++ x.take (s.wrote x) }
def St.got (s : St) (n : Int) : List UInt8 := s.data.take n.toNat
def St.readErr (s : St) (n : Int) : Int := if n < 0 then 22 else if 0 < n ∧ s.data.length = 0 ∧ 0 < s.t then 11 else 0
def St.read (s : St) (n : Int) : St := { s with data := s.data.drop n.toNat }

def St.ok (s : St) : Prop := 0 < s.size ∧ s.size ≤ 65536 ∧ s.data.length ≤ s.size

/-- What may turn is what lies in blocks P and B alone. -/
structure Frame (P B : Nat) (w w' : World) : Prop where
  os : w'.os = w.os
  tape : w'.tape = w.tape
  output : w'.output = w.output
  size : w.heap.size ≤ w'.heap.size
  block : ∀ k, k < w.heap.size → k ≠ P → k ≠ B → w'.heap[k]? = w.heap[k]?

theorem Frame.refl (P B : Nat) (w : World) : Frame P B w w := ⟨rfl, rfl, rfl, Nat.le_refl _, fun _ _ _ _ => rfl⟩
theorem Frame.trans {P B : Nat} {a b c : World} (h : Frame P B a b) (k : Frame P B b c) : Frame P B a c :=
  ⟨k.os.trans h.os, k.tape.trans h.tape, k.output.trans h.output, Nat.le_trans h.size k.size, fun i hi h1 h2 => (k.block i (Nat.lt_of_lt_of_le hi h.size) h1 h2).trans (h.block i hi h1 h2)⟩
theorem Frame.drewN {P B : Nat} {a w : World} (h : Frame P B a w) (n : Nat) : Frame P B a (w.drewN n) := ⟨h.os, h.tape, h.output, h.size, h.block⟩
theorem Frame.drew {P B : Nat} {a w : World} (h : Frame P B a w) : Frame P B a w.drew := ⟨h.os, h.tape, h.output, h.size, h.block⟩
theorem Frame.setCell {P B : Nat} {a w : World} (h : Frame P B a w) (p : Addr) (hp : p.block = P ∨ p.block = B) (u : Value) : Frame P B a (w.setCell p u) :=
  h.trans ⟨rfl, rfl, rfl, by simp [World.setCell], fun k _ h1 h2 => Below.heap_setCell _ _ _ _ (by omega)⟩
theorem Frame.setP {P B : Nat} {a w : World} (h : Frame P B a w) (o : Nat) (u : Value) : Frame P B a (w.setCell ⟨P, o, none⟩ u) := h.setCell _ (.inl rfl) u
theorem Frame.setB {P B : Nat} {a w : World} (h : Frame P B a w) (o : Nat) (u : Value) : Frame P B a (w.setCell ⟨B, o, none⟩ u) := h.setCell _ (.inr rfl) u
theorem Frame.alloc {P B : Nat} {a w : World} (h : Frame P B a w) (o : Obj) : Frame P B a (w.alloc o) :=
  h.trans ⟨rfl, rfl, rfl, by simp, fun k hk _ _ => Below.heap_alloc _ _ _ hk⟩
theorem Frame.below {P B n : Nat} {w w' : World} (h : Frame P B w w') (hn : n ≤ w.heap.size) (hP : n ≤ P) (hB : n ≤ B) : Below n w w' :=
  ⟨h.os, h.tape, h.output, h.size, fun k hk => h.block k (by omega) (by omega) (by omega)⟩

/-- The ring in memory. -/
structure RingAt (w : World) (P B size first : Nat) (data : List UInt8) : Prop where
  c0 : w.cell? ⟨P, 0, none⟩ = some (.slice (some ⟨B, 0, none⟩) size size)
  c1 : w.cell? ⟨P, 1, none⟩ = some (.int .i64 first)
  c2 : w.cell? ⟨P, 2, none⟩ = some (.int .i64 data.length)
  f1 : w.frozen? ⟨P, 1, none⟩ = false
  f2 : w.frozen? ⟨P, 2, none⟩ = false
  hb : ∀ i, i < size → w.frozen? ⟨B, i, none⟩ = false ∧ ∃ v : UInt8, w.cell? ⟨B, i, none⟩ = some (.int .u8 v.toNat)
  hd : ∀ i (h : i < data.length), w.cell? ⟨B, (first + i) % size, none⟩ = some (.int .u8 data[i].toNat)
  lt : first < size
  le : data.length ≤ size
  top : size ≤ 65536
  ne : P ≠ B

/-- The pipe in memory. -/
structure PipeAt (w : World) (P B : Nat) (s : St) : Prop where
  ring : ∃ first, RingAt w P B s.size first s.data
  c3 : w.cell? ⟨P, 3, none⟩ = some (.int .i64 s.r)
  c4 : w.cell? ⟨P, 4, none⟩ = some (.int .i64 s.t)
  f3 : w.frozen? ⟨P, 3, none⟩ = false
  f4 : w.frozen? ⟨P, 4, none⟩ = false

/-- The two blocks are as they were. -/
structure Stays (P B : Nat) (w w' : World) : Prop where
  p : w'.heap[P]? = w.heap[P]?
  b : w'.heap[B]? = w.heap[B]?

theorem cell_of_heap {w w' : World} {a : Addr} (h : w'.heap[a.block]? = w.heap[a.block]?) : w'.cell? a = w.cell? a := World.cell?_of_block (w := w) h
theorem frozen_of_heap {w w' : World} {a : Addr} (h : w'.heap[a.block]? = w.heap[a.block]?) : w'.frozen? a = w.frozen? a := World.frozen?_of_block (w := w) h

theorem RingAt.keep {w w' : World} {P B size first : Nat} {data : List UInt8} (h : RingAt w P B size first data) (k : Stays P B w w') : RingAt w' P B size first data where
  c0 := (cell_of_heap (a := ⟨P, 0, none⟩) k.p).trans h.c0
  c1 := (cell_of_heap (a := ⟨P, 1, none⟩) k.p).trans h.c1
  c2 := (cell_of_heap (a := ⟨P, 2, none⟩) k.p).trans h.c2
  f1 := (frozen_of_heap (a := ⟨P, 1, none⟩) k.p).trans h.f1
  f2 := (frozen_of_heap (a := ⟨P, 2, none⟩) k.p).trans h.f2
  hb := fun i hi => ⟨(frozen_of_heap (a := ⟨B, i, none⟩) k.b).trans (h.hb i hi).1, by
    obtain ⟨v, hv⟩ := (h.hb i hi).2
    exact ⟨v, (cell_of_heap (a := ⟨B, i, none⟩) k.b).trans hv⟩⟩
  hd := fun i hi => (cell_of_heap (a := ⟨B, _, none⟩) k.b).trans (h.hd i hi)
  lt := h.lt
  le := h.le
  top := h.top
  ne := h.ne

theorem PipeAt.keep {w w' : World} {P B : Nat} {s : St} (h : PipeAt w P B s) (k : Stays P B w w') : PipeAt w' P B s where
  ring := by obtain ⟨f, hf⟩ := h.ring; exact ⟨f, hf.keep k⟩
  c3 := (cell_of_heap (a := ⟨P, 3, none⟩) k.p).trans h.c3
  c4 := (cell_of_heap (a := ⟨P, 4, none⟩) k.p).trans h.c4
  f3 := (frozen_of_heap (a := ⟨P, 3, none⟩) k.p).trans h.f3
  f4 := (frozen_of_heap (a := ⟨P, 4, none⟩) k.p).trans h.f4

theorem PipeAt.ok {w : World} {P B : Nat} {s : St} (h : PipeAt w P B s) : s.ok := by
  obtain ⟨f, hf⟩ := h.ring
  have := hf.lt; have := hf.le; have := hf.top
  exact ⟨by omega, by omega, by omega⟩

theorem block_of_cell {w : World} {a : Addr} {v : Value} (h : w.cell? a = some v) : a.block < w.heap.size := by
  unfold World.cell? at h
  rcases Nat.lt_or_ge a.block w.heap.size with g | g
  · exact g
  · rw [Array.getElem?_eq_none g] at h; simp at h

theorem RingAt.ltP {w : World} {P B size first : Nat} {data : List UInt8} (h : RingAt w P B size first data) : P < w.heap.size := block_of_cell h.c0
theorem RingAt.ltB {w : World} {P B size first : Nat} {data : List UInt8} (h : RingAt w P B size first data) : B < w.heap.size := by
  obtain ⟨v, hv⟩ := (h.hb first h.lt).2
  exact block_of_cell hv
theorem PipeAt.ltP {w : World} {P B : Nat} {s : St} (h : PipeAt w P B s) : P < w.heap.size := block_of_cell h.c3
theorem PipeAt.ltB {w : World} {P B : Nat} {s : St} (h : PipeAt w P B s) : B < w.heap.size := by obtain ⟨f, hf⟩ := h.ring; exact hf.ltB
theorem PipeAt.neq {w : World} {P B : Nat} {s : St} (h : PipeAt w P B s) : P ≠ B := by obtain ⟨f, hf⟩ := h.ring; exact hf.ne

theorem mod_of (a s : Nat) (h : a < 2 * s) : a % s = if a < s then a else a - s := by
  split
  · rename_i g; exact Nat.mod_eq_of_lt g
  · rename_i g
    rw [Nat.mod_eq_sub_mod (by omega), Nat.mod_eq_of_lt (by omega)]

theorem mod_ne {first size i j : Nat} (hf : first < size) (hi : i < j) (hj : j < size) : (first + i) % size ≠ (first + j) % size := by
  rw [mod_of _ _ (by omega), mod_of _ _ (by omega)]
  split <;> split <;> omega

theorem cell_set_same {w : World} {a : Addr} {v u : Value} (h : w.cell? a = some u) (hs : a.spot = none) : (w.setCell a v).cell? a = some v := by
  obtain ⟨b, o, s⟩ := a
  obtain rfl : s = none := hs
  exact World.cell?_setCell_same' _ _ _ (by rw [h]; rfl)

theorem cell_set_ne {w : World} {b o b' o' : Nat} {v : Value} (h : b ≠ b' ∨ o ≠ o') : (w.setCell ⟨b, o, none⟩ v).cell? ⟨b', o', none⟩ = w.cell? ⟨b', o', none⟩ := by
  by_cases hb : b' = b
  · subst hb
    have ho : o ≠ o' := by omega
    simp only [World.cell?, World.setCell, Array.getElem?_modify]
    rw [if_pos trivial]
    cases hh : w.heap[b']? with
    | none => rfl
    | some x =>
      cases x <;> simp [ho]
  · exact cell_of_heap (a := ⟨b', o', none⟩) (Below.heap_setCell _ _ _ _ (by simpa using hb))

/-- A byte more. -/
theorem RingAt.push {w : World} {P B size first : Nat} {data : List UInt8} (h : RingAt w P B size first data) (x : UInt8) (hl : data.length < size) :
    RingAt ((w.setCell ⟨B, (first + data.length) % size, none⟩ (.int .u8 x.toNat)).setCell ⟨P, 2, none⟩ (.int .i64 ((data.length : Int) + 1))) P B size first (data ++ [x]) := by
  have hne := h.ne
  have hm : (first + data.length) % size < size := Nat.mod_lt _ (by have := h.lt; omega)
  obtain ⟨v, hv⟩ := (h.hb _ hm).2
  refine ⟨?_, ?_, ?_, ?_, ?_, ?_, ?_, h.lt, by simp; omega, h.top, h.ne⟩
  · rw [cell_set_ne (by omega), cell_set_ne (by omega)]; exact h.c0
  · rw [cell_set_ne (by omega), cell_set_ne (by omega)]; exact h.c1
  · rw [cell_set_same (u := .int .i64 data.length) (by rw [cell_set_ne (by omega)]; exact h.c2) rfl]; simp
  · rw [World.frozen?_setCell, World.frozen?_setCell]; exact h.f1
  · rw [World.frozen?_setCell, World.frozen?_setCell]; exact h.f2
  · intro i hi
    refine ⟨by rw [World.frozen?_setCell, World.frozen?_setCell]; exact (h.hb i hi).1, ?_⟩
    by_cases e : i = (first + data.length) % size
    · subst e; exact ⟨x, by rw [cell_set_ne (by omega), cell_set_same hv rfl]⟩
    · obtain ⟨u, hu⟩ := (h.hb i hi).2
      exact ⟨u, by rw [cell_set_ne (by omega), cell_set_ne (by omega)]; exact hu⟩
  · intro i hi
    rw [cell_set_ne (by omega)]
    by_cases e : i < data.length
    · rw [cell_set_ne (.inr (Ne.symm (mod_ne h.lt e hl))), h.hd i e]
      simp [List.getElem_append_left, e]
    · obtain rfl : i = data.length := by simp at hi; omega
      rw [cell_set_same hv rfl]; simp

/-- The first byte goes. -/
theorem RingAt.pop {w : World} {P B size first : Nat} {x : UInt8} {data : List UInt8} (h : RingAt w P B size first (x :: data)) :
    RingAt ((w.setCell ⟨P, 1, none⟩ (.int .i64 ((first + 1) % size : Nat))).setCell ⟨P, 2, none⟩ (.int .i64 data.length)) P B size ((first + 1) % size) data := by
  have hne := h.ne
  have hlt := h.lt
  have hle := h.le
  simp only [List.length_cons] at hle
  refine ⟨?_, ?_, ?_, ?_, ?_, ?_, ?_, Nat.mod_lt _ (by omega), by omega, h.top, h.ne⟩
  · rw [cell_set_ne (by omega), cell_set_ne (by omega)]; exact h.c0
  · rw [cell_set_ne (by omega), cell_set_same h.c1 rfl]
  · rw [cell_set_same (u := .int .i64 ((x :: data).length)) (by rw [cell_set_ne (by omega)]; exact h.c2) rfl]
  · rw [World.frozen?_setCell, World.frozen?_setCell]; exact h.f1
  · rw [World.frozen?_setCell, World.frozen?_setCell]; exact h.f2
  · intro i hi
    refine ⟨by rw [World.frozen?_setCell, World.frozen?_setCell]; exact (h.hb i hi).1, ?_⟩
    obtain ⟨u, hu⟩ := (h.hb i hi).2
    exact ⟨u, by rw [cell_set_ne (by omega), cell_set_ne (by omega)]; exact hu⟩
  · intro i hi
    rw [cell_set_ne (by omega), cell_set_ne (by omega)]
    have g := h.hd (i + 1) (by simp; omega)
    have e : ((first + 1) % size + i) % size = (first + (i + 1)) % size := by
      rw [Nat.mod_add_mod, Nat.add_assoc, Nat.add_comm 1 i]
    rw [e, g]; simp
end Go.Proofs.Ytifoanmoadogoaa
