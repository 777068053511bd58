/- The plain model of a pipe (its size, its ends, the bytes that it holds), the ring and the pipe in memory, and what stores do to them. No walk; no condition. -/
import Derived.Test.YtmilagppbepnbaaGreatProg
import Derived.WalkKit
import Derived.WalkSpells
import Derived.WalkLawsBesides
import Derived.Deep.Draws
import Derived.WalkSmall
import Derived.Deep.QuietTactic
import Derived.BigQuiet
import Derived.Lib.Hide
import Derived.BigRegion
import Derived.StillTailTactics
namespace Go.Proofs.YtmilagppbepnbaaGreat.Pp
open Go.RowKit

/-- A pipe, plainly. -/
structure St where
  size : Nat
  r : Nat
  t : Nat
  data : List UInt8

def St.opened (s : St) : Bool → St
  | true => { s with t := s.t + 1 }
  | false => { s with r := s.r + 1 }
def St.closes (s : St) : Bool → Bool
  | true => decide (0 < s.t)
  | false => decide (0 < s.r)
def St.closed (s : St) : Bool → St
  | true => { s with t := s.t - 1 }
  | false => { s with r := s.r - 1 }
def St.closeErr (s : St) (b : Bool) : Int := if s.closes b then 0 else 9
def St.waits (s : St) : Bool → Bool
  | true => decide (0 < s.r) && decide (s.data.length = s.size)
  | false => decide (0 < s.t) && decide (s.data.length = 0)
/-- How many bytes of x go in. -/
def St.wrote (s : St) (x : List UInt8) : Nat := if s.r = 0 then 0 else min x.length (s.size - s.data.length)
def St.writeErr (s : St) (x : List UInt8) : Int := if s.r = 0 then 32 else if x = [] then 0 else if s.size = s.data.length then 11 else 0
def St.written (s : St) (x : List UInt8) : St := { s with data := s.data ++ x.take (s.wrote x) }
def St.got (s : St) (n : Int) : List UInt8 := s.data.take n.toNat
def St.readErr (s : St) (n : Int) : Int := if n < 0 then 22 else if 0 < n ∧ s.data.length = 0 ∧ 0 < s.t then 11 else 0
def St.read (s : St) (n : Int) : St := { s with data := s.data.drop n.toNat }

def St.ok (s : St) : Prop := 0 < s.size ∧ s.size ≤ 65536 ∧ s.data.length ≤ s.size

/-- What may turn is what lies in blocks P and B alone. -/
structure Frame (P B : Nat) (w w' : World) : Prop where
  os : w'.os = w.os
  tape : w'.tape = w.tape
  output : w'.output = w.output
  size : w.heap.size ≤ w'.heap.size
  block : ∀ k, k < w.heap.size → k ≠ P → k ≠ B → w'.heap[k]? = w.heap[k]?

theorem Frame.refl (P B : Nat) (w : World) : Frame P B w w := ⟨rfl, rfl, rfl, Nat.le_refl _, fun _ _ _ _ => rfl⟩
theorem Frame.trans {P B : Nat} {a b c : World} (h : Frame P B a b) (k : Frame P B b c) : Frame P B a c :=
  ⟨k.os.trans h.os, k.tape.trans h.tape, k.output.trans h.output, Nat.le_trans h.size k.size, fun i hi h1 h2 => (k.block i (Nat.lt_of_lt_of_le hi h.size) h1 h2).trans (h.block i hi h1 h2)⟩
theorem Frame.drewN {P B : Nat} {a w : World} (h : Frame P B a w) (n : Nat) : Frame P B a (w.drewN n) := ⟨h.os, h.tape, h.output, h.size, h.block⟩
theorem Frame.drew {P B : Nat} {a w : World} (h : Frame P B a w) : Frame P B a w.drew := ⟨h.os, h.tape, h.output, h.size, h.block⟩
theorem Frame.setCell {P B : Nat} {a w : World} (h : Frame P B a w) (p : Addr) (hp : p.block = P ∨ p.block = B) (u : Value) : Frame P B a (w.setCell p u) :=
  h.trans ⟨rfl, rfl, rfl, by simp [World.setCell], fun k _ h1 h2 => Below.heap_setCell _ _ _ _ (by omega)⟩
theorem Frame.setP {P B : Nat} {a w : World} (h : Frame P B a w) (o : Nat) (u : Value) : Frame P B a (w.setCell ⟨P, o, none⟩ u) := h.setCell _ (.inl rfl) u
theorem Frame.setB {P B : Nat} {a w : World} (h : Frame P B a w) (o : Nat) (u : Value) : Frame P B a (w.setCell ⟨B, o, none⟩ u) := h.setCell _ (.inr rfl) u
theorem Frame.alloc {P B : Nat} {a w : World} (h : Frame P B a w) (o : Obj) : Frame P B a (w.alloc o) :=
  h.trans ⟨rfl, rfl, rfl, by simp, fun k hk _ _ => Below.heap_alloc _ _ _ hk⟩

/-- The ring in memory. -/
structure RingAt (w : World) (P B size first : Nat) (data : List UInt8) : Prop where
  c0 : w.cell? ⟨P, 0, none⟩ = some (.slice (some ⟨B, 0, none⟩) size size)
  c1 : w.cell? ⟨P, 1, none⟩ = some (.int .i64 first)
  c2 : w.cell? ⟨P, 2, none⟩ = some (.int .i64 data.length)
  f1 : w.frozen? ⟨P, 1, none⟩ = false
  f2 : w.frozen? ⟨P, 2, none⟩ = false
  hb : ∀ i, i < size → w.frozen? ⟨B, i, none⟩ = false ∧ ∃ v : UInt8, w.cell? ⟨B, i, none⟩ = some (.int .u8 v.toNat)
  hd : ∀ i (h : i < data.length), w.cell? ⟨B, (first + i) % size, none⟩ = some (.int .u8 data[i].toNat)
  lt : first < size
  le : data.length ≤ size
  top : size ≤ 65536
  ne : P ≠ B

/-- The pipe in memory. -/
structure PipeAt (w : World) (P B : Nat) (s : St) : Prop where
  ring : ∃ first, RingAt w P B s.size first s.data
  c3 : w.cell? ⟨P, 3, none⟩ = some (.int .i64 s.r)
  c4 : w.cell? ⟨P, 4, none⟩ = some (.int .i64 s.t)
  f3 : w.frozen? ⟨P, 3, none⟩ = false
  f4 : w.frozen? ⟨P, 4, none⟩ = false

/-- The two blocks are as they were. -/
structure Stays (P B : Nat) (w w' : World) : Prop where
  p : w'.heap[P]? = w.heap[P]?
  b : w'.heap[B]? = w.heap[B]?

theorem cell_of_heap {w w' : World} {a : Addr} (h : w'.heap[a.block]? = w.heap[a.block]?) : w'.cell? a = w.cell? a := World.cell?_of_block (w := w) h
theorem frozen_of_heap {w w' : World} {a : Addr} (h : w'.heap[a.block]? = w.heap[a.block]?) : w'.frozen? a = w.frozen? a := World.frozen?_of_block (w := w) h

theorem RingAt.keep {w w' : World} {P B size first : Nat} {data : List UInt8} (h : RingAt w P B size first data) (k : Stays P B w w') : RingAt w' P B size first data where
  c0 := (cell_of_heap (a := ⟨P, 0, none⟩) k.p).trans h.c0
  c1 := (cell_of_heap (a := ⟨P, 1, none⟩) k.p).trans h.c1
  c2 := (cell_of_heap (a := ⟨P, 2, none⟩) k.p).trans h.c2
  f1 := (frozen_of_heap (a := ⟨P, 1, none⟩) k.p).trans h.f1
  f2 := (frozen_of_heap (a := ⟨P, 2, none⟩) k.p).trans h.f2
  hb := fun i hi => ⟨(frozen_of_heap (a := ⟨B, i, none⟩) k.b).trans (h.hb i hi).1, by
    obtain ⟨v, hv⟩ := (h.hb i hi).2
    exact ⟨v, (cell_of_heap (a := ⟨B, i, none⟩) k.b).trans hv⟩⟩
  hd := fun i hi => (cell_of_heap (a := ⟨B, _, none⟩) k.b).trans (h.hd i hi)
  lt := h.lt
  le := h.le
  top := h.top
  ne := h.ne

theorem PipeAt.keep {w w' : World} {P B : Nat} {s : St} (h : PipeAt w P B s) (k : Stays P B w w') : PipeAt w' P B s where
  ring := by obtain ⟨f, hf⟩ := h.ring; exact ⟨f, hf.keep k⟩
  c3 := (cell_of_heap (a := ⟨P, 3, none⟩) k.p).trans h.c3
  c4 := (cell_of_heap (a := ⟨P, 4, none⟩) k.p).trans h.c4
  f3 := (frozen_of_heap (a := ⟨P, 3, none⟩) k.p).trans h.f3
  f4 := (frozen_of_heap (a := ⟨P, 4, none⟩) k.p).trans h.f4

theorem PipeAt.ok {w : World} {P B : Nat} {s : St} (h : PipeAt w P B s) : s.ok := by
  obtain ⟨f, hf⟩ := h.ring
  have := hf.lt; have := hf.le; have := hf.top
  exact ⟨by omega, by omega, by omega⟩

theorem block_of_cell {w : World} {a : Addr} {v : Value} (h : w.cell? a = some v) : a.block < w.heap.size := by
  unfold World.cell? at h
  rcases Nat.lt_or_ge a.block w.heap.size with g | g
  · exact g
  · rw [Array.getElem?_eq_none g] at h; simp at h

theorem RingAt.ltP {w : World} {P B size first : Nat} {data : List UInt8} (h : RingAt w P B size first data) : P < w.heap.size := block_of_cell h.c0
theorem RingAt.ltB {w : World} {P B size first : Nat} {data : List UInt8} (h : RingAt w P B size first data) : B < w.heap.size := by
  obtain ⟨v, hv⟩ := (h.hb first h.lt).2
  exact block_of_cell hv
theorem PipeAt.ltP {w : World} {P B : Nat} {s : St} (h : PipeAt w P B s) : P < w.heap.size := block_of_cell h.c3
theorem PipeAt.ltB {w : World} {P B : Nat} {s : St} (h : PipeAt w P B s) : B < w.heap.size := by obtain ⟨f, hf⟩ := h.ring; exact hf.ltB
theorem PipeAt.neq {w : World} {P B : Nat} {s : St} (h : PipeAt w P B s) : P ≠ B := by obtain ⟨f, hf⟩ := h.ring; exact hf.ne

theorem mod_of (a s : Nat) (h : a < 2 * s) : a % s = if a < s then a else a - s := by
  split
  · rename_i g; exact Nat.mod_eq_of_lt g
  · rename_i g
    rw [Nat.mod_eq_sub_mod (by omega), Nat.mod_eq_of_lt (by omega)]

theorem mod_ne {first size i j : Nat} (hf : first < size) (hi : i < j) (hj : j < size) : (first + i) % size ≠ (first + j) % size := by
  rw [mod_of _ _ (by omega), mod_of _ _ (by omega)]
  split <;> split <;> omega

theorem cell_set_same {w : World} {a : Addr} {v u : Value} (h : w.cell? a = some u) (hs : a.spot = none) : (w.setCell a v).cell? a = some v := by
  obtain ⟨b, o, s⟩ := a
  obtain rfl : s = none := hs
  exact World.cell?_setCell_same' _ _ _ (by rw [h]; rfl)

theorem cell_set_ne {w : World} {b o b' o' : Nat} {v : Value} (h : b ≠ b' ∨ o ≠ o') : (w.setCell ⟨b, o, none⟩ v).cell? ⟨b', o', none⟩ = w.cell? ⟨b', o', none⟩ := by
  by_cases hb : b' = b
  · subst hb
    have ho : o ≠ o' := by omega
    simp only [World.cell?, World.setCell, Array.getElem?_modify]
    rw [if_pos trivial]
    cases hh : w.heap[b']? with
    | none => rfl
    | some x =>
      cases x <;> simp [ho]
  · exact cell_of_heap (a := ⟨b', o', none⟩) (Below.heap_setCell _ _ _ _ (by simpa using hb))

/-- A byte more. -/
theorem RingAt.push {w : World} {P B size first : Nat} {data : List UInt8} (h : RingAt w P B size first data) (x : UInt8) (hl : data.length < size) :
    RingAt ((w.setCell ⟨B, (first + data.length) % size, none⟩ (.int .u8 x.toNat)).setCell ⟨P, 2, none⟩ (.int .i64 ((data.length : Int) + 1))) P B size first (data ++ [x]) := by
  have hne := h.ne
  have hm : (first + data.length) % size < size := Nat.mod_lt _ (by have := h.lt; omega)
  obtain ⟨v, hv⟩ := (h.hb _ hm).2
  refine ⟨?_, ?_, ?_, ?_, ?_, ?_, ?_, h.lt, by simp; omega, h.top, h.ne⟩
  · rw [cell_set_ne (by omega), cell_set_ne (by omega)]; exact h.c0
  · rw [cell_set_ne (by omega), cell_set_ne (by omega)]; exact h.c1
  · rw [cell_set_same (u := .int .i64 data.length) (by rw [cell_set_ne (by omega)]; exact h.c2) rfl]; simp
  · rw [World.frozen?_setCell, World.frozen?_setCell]; exact h.f1
  · rw [World.frozen?_setCell, World.frozen?_setCell]; exact h.f2
  · intro i hi
    refine ⟨by rw [World.frozen?_setCell, World.frozen?_setCell]; exact (h.hb i hi).1, ?_⟩
    by_cases e : i = (first + data.length) % size
    · subst e; exact ⟨x, by rw [cell_set_ne (by omega), cell_set_same hv rfl]⟩
    · obtain ⟨u, hu⟩ := (h.hb i hi).2
      exact ⟨u, by rw [cell_set_ne (by omega), cell_set_ne (by omega)]; exact hu⟩
  · intro i hi
    rw [cell_set_ne (by omega)]
    by_cases e : i < data.length
    · rw [cell_set_ne (.inr (Ne.symm (mod_ne h.lt e hl))), h.hd i e]
      simp [List.getElem_append_left, e]
    · obtain rfl : i = data.length := by simp at hi; omega
      rw [cell_set_same hv rfl]; simp

/-- The first byte goes. -/
theorem RingAt.pop {w : World} {P B size first : Nat} {x : UInt8} {data : List UInt8} (h : RingAt w P B size first (x :: data)) :
    RingAt ((w.setCell ⟨P, 1, none⟩ (.int .i64 ((first + 1) % size : Nat))).setCell ⟨P, 2, none⟩ (.int .i64 data.length)) P B size ((first + 1) % size) data := by
  have hne := h.ne
  have hlt := h.lt
  have hle := h.le
  simp only [List.length_cons] at hle
  refine ⟨?_, ?_, ?_, ?_, ?_, ?_, ?_, Nat.mod_lt _ (by omega), by omega, h.top, h.ne⟩
  · rw [cell_set_ne (by omega), cell_set_ne (by omega)]; exact h.c0
  · rw [cell_set_ne (by omega), cell_set_same h.c1 rfl]
  · rw [cell_set_same (u := .int .i64 ((x :: data).length)) (by rw [cell_set_ne (by omega)]; exact h.c2) rfl]
  · rw [World.frozen?_setCell, World.frozen?_setCell]; exact h.f1
  · rw [World.frozen?_setCell, World.frozen?_setCell]; exact h.f2
  · intro i hi
    refine ⟨by rw [World.frozen?_setCell, World.frozen?_setCell]; exact (h.hb i hi).1, ?_⟩
    obtain ⟨u, hu⟩ := (h.hb i hi).2
    exact ⟨u, by rw [cell_set_ne (by omega), cell_set_ne (by omega)]; exact hu⟩
  · intro i hi
    rw [cell_set_ne (by omega), cell_set_ne (by omega)]
    have g := h.hd (i + 1) (by simp; omega)
    have e : ((first + 1) % size + i) % size = (first + (i + 1)) % size := by
      rw [Nat.mod_add_mod, Nat.add_assoc, Nat.add_comm 1 i]
    rw [e, g]; simp
end Go.Proofs.YtmilagppbepnbaaGreat.Pp
/- The contracts of the ring of bytes below a pipe: what room, push and pop do to memory. Conditions: the ring's cells are as stated. -/
namespace Go.Proofs.YtmilagppbepnbaaGreat.Pp
open Go.RowKit

set_option maxHeartbeats 400000 in
theorem room_any (P B size cnt : Nat) (w : World) (h0 : w.cell? ⟨P, 0, none⟩ = some (.slice (some ⟨B, 0, none⟩) size size))
    (h2 : w.cell? ⟨P, 2, none⟩ = some (.int .i64 cnt)) (hs : size ≤ 65536) (hc : cnt ≤ size) :
    Calls Tryz.prog 135 #[.pointer (some ⟨P, 0, none⟩)] w fun e w' => e = .returned (.int .i64 ((size : Int) - cnt)) ∧ ∃ n, w' = w.drewN n := by
  go_enter Tryz.func135, Tryz.ntmps135
  go_wp2
  go_quiet (fail)
  go_wp2
  go_ret
  exact ⟨rfl, _, rfl⟩

set_option maxRecDepth 100000 in
set_option maxHeartbeats 400000 in
theorem push_any (P B size first cnt : Nat) (x : Int) (w : World) (h0 : w.cell? ⟨P, 0, none⟩ = some (.slice (some ⟨B, 0, none⟩) size size))
    (h1 : w.cell? ⟨P, 1, none⟩ = some (.int .i64 first)) (h2 : w.cell? ⟨P, 2, none⟩ = some (.int .i64 cnt)) (hs : size ≤ 65536) (hf : first < size) (hc : cnt < size)
    (hb : w.frozen? ⟨B, (first + cnt) % size, none⟩ = false) (v : Value) (hv : w.cell? ⟨B, (first + cnt) % size, none⟩ = some v) (hp2 : w.frozen? ⟨P, 2, none⟩ = false) (hPB : P ≠ B) :
    Calls Tryz.prog 244 #[.pointer (some ⟨P, 0, none⟩), .int .u8 x] w fun e w' => e = .returned (.tuple #[]) ∧
      ∃ n, w' = ((w.setCell ⟨B, (first + cnt) % size, none⟩ (.int .u8 x)).setCell ⟨P, 2, none⟩ (.int .i64 ((cnt : Int) + 1))).drewN n := by
  have b1 : 0 ≤ ((first : Int) + cnt) % size := Int.emod_nonneg _ (by omega)
  have b2 : ((first : Int) + cnt) % size < size := Int.emod_lt_of_pos _ (by omega)
  have b3 : ¬ size = 0 := by omega
  go_enter Tryz.func244, Tryz.ntmps244
  go_wp2
  go_region
  go_wp2
  go_end0
  exact ⟨rfl, _, rfl⟩

set_option maxHeartbeats 400000 in
theorem pop_any (P B size first cnt : Nat) (x : Int) (w : World) (h0 : w.cell? ⟨P, 0, none⟩ = some (.slice (some ⟨B, 0, none⟩) size size))
    (h1 : w.cell? ⟨P, 1, none⟩ = some (.int .i64 first)) (h2 : w.cell? ⟨P, 2, none⟩ = some (.int .i64 ((cnt : Int) + 1))) (hs : size ≤ 65536) (hf : first < size) (hc : cnt < size)
    (hv : w.cell? ⟨B, first, none⟩ = some (.int .u8 x)) (hp1 : w.frozen? ⟨P, 1, none⟩ = false) (hp2 : w.frozen? ⟨P, 2, none⟩ = false) :
    Calls Tryz.prog 242 #[.pointer (some ⟨P, 0, none⟩)] w fun e w' => e = .returned (.int .u8 x) ∧
      ∃ n, w' = ((w.setCell ⟨P, 1, none⟩ (.int .i64 (((first : Int) + 1) % size))).setCell ⟨P, 2, none⟩ (.int .i64 cnt)).drewN n := by
  have b1 : 0 ≤ ((first : Int) + 1) % size := Int.emod_nonneg _ (by omega)
  have b2 : ((first : Int) + 1) % size < size := Int.emod_lt_of_pos _ (by omega)
  have b3 : ¬ size = 0 := by omega
  have b4 : (first : Int) < size := by omega
  go_enter Tryz.func242, Tryz.ntmps242
  go_wp2
  go_quiet (fail)
  go_wp2
  go_region
  go_wp2
  go_ret
  exact ⟨rfl, _, rfl⟩

theorem push_pipe {P B : Nat} {s : St} (x : UInt8) (w : World) (h : PipeAt w P B s) (hl : s.data.length < s.size) :
    Calls Tryz.prog 244 #[.pointer (some ⟨P, 0, none⟩), .int .u8 x.toNat] w fun e w' => e = .returned (.tuple #[]) ∧ PipeAt w' P B { s with data := s.data ++ [x] } ∧ Frame P B w w' := by
  obtain ⟨f, hr⟩ := h.ring
  have hm : (f + s.data.length) % s.size < s.size := Nat.mod_lt _ (by omega)
  obtain ⟨v, hv⟩ := (hr.hb _ hm).2
  refine (push_any P B s.size f s.data.length _ w hr.c0 hr.c1 hr.c2 hr.top hr.lt hl (hr.hb _ hm).1 _ hv hr.f2 hr.ne).mono ?_
  rintro e w' ⟨he, n, rfl⟩
  have hne := hr.ne
  refine ⟨he, ?_, (((Frame.refl P B w).setB _ _).setP _ _).drewN n⟩
  refine ⟨⟨f, (hr.push x hl).keep ⟨rfl, rfl⟩⟩, ?_, ?_, ?_, ?_⟩
  · rw [World.cell?_drewN, cell_set_ne (by omega), cell_set_ne (by omega)]; exact h.c3
  · rw [World.cell?_drewN, cell_set_ne (by omega), cell_set_ne (by omega)]; exact h.c4
  · rw [World.frozen?_drewN, World.frozen?_setCell, World.frozen?_setCell]; exact h.f3
  · rw [World.frozen?_drewN, World.frozen?_setCell, World.frozen?_setCell]; exact h.f4

theorem pop_pipe {P B : Nat} {s : St} (x : UInt8) (rest : List UInt8) (w : World) (h : PipeAt w P B s) (hx : s.data = x :: rest) :
    Calls Tryz.prog 242 #[.pointer (some ⟨P, 0, none⟩)] w fun e w' => e = .returned (.int .u8 x.toNat) ∧ PipeAt w' P B { s with data := rest } ∧ Frame P B w w' := by
  obtain ⟨f, hr⟩ := h.ring
  rw [hx] at hr
  have hlt := hr.lt
  have hle := hr.le
  have hne := hr.ne
  simp only [List.length_cons] at hle
  have c2 := hr.c2
  have cv := hr.hd 0 (by simp)
  rw [Nat.add_zero, Nat.mod_eq_of_lt hlt] at cv
  simp only [List.length_cons, Int.natCast_add, Int.cast_ofNat_Int] at c2
  refine (pop_any P B s.size f rest.length _ w hr.c0 hr.c1 c2 hr.top hlt (by omega) cv hr.f1 hr.f2).mono ?_
  rintro e w' ⟨he, n, rfl⟩
  refine ⟨he, ?_, (((Frame.refl P B w).setP _ _).setP _ _).drewN n⟩
  refine ⟨⟨(f + 1) % s.size, ?_⟩, ?_, ?_, ?_, ?_⟩
  · have := hr.pop
    rw [show (((f + 1) % s.size : Nat) : Int) = ((f : Int) + 1) % s.size by push_cast; rfl] at this
    exact this.keep ⟨rfl, rfl⟩
  · rw [World.cell?_drewN, cell_set_ne (by omega), cell_set_ne (by omega)]; exact h.c3
  · rw [World.cell?_drewN, cell_set_ne (by omega), cell_set_ne (by omega)]; exact h.c4
  · rw [World.frozen?_drewN, World.frozen?_setCell, World.frozen?_setCell]; exact h.f3
  · rw [World.frozen?_drewN, World.frozen?_setCell, World.frozen?_setCell]; exact h.f4

theorem room_pipe {P B : Nat} {s : St} (w : World) (h : PipeAt w P B s) :
    Calls Tryz.prog 135 #[.pointer (some ⟨P, 0, none⟩)] w fun e w' => e = .returned (.int .i64 ((s.size : Int) - s.data.length)) ∧ ∃ n, w' = w.drewN n := by
  obtain ⟨f, hr⟩ := h.ring
  exact room_any P B _ _ w hr.c0 hr.c2 hr.top hr.le
end Go.Proofs.YtmilagppbepnbaaGreat.Pp
/- The contracts of a pipe's small calls: Open, Close, Ends, Len, Waits; also of no pipe. Condition: the pipe's cells are as stated; fewer than 2^62 ends. -/
namespace Go.Proofs.YtmilagppbepnbaaGreat.Pp
open Go.RowKit

set_option maxHeartbeats 400000 in
theorem ends_any (P : Nat) (b : Bool) (w : World) :
    Calls Tryz.prog 248 #[.pointer (some ⟨P, 0, none⟩), .bool b] w fun e w' => e = .returned (.pointer (some ⟨P, if b then 4 else 3, none⟩)) ∧ w' = w := by
  cases b
  all_goals
    go_enter Tryz.func248, Tryz.ntmps248
    go_wp2
    go_ret
    exact ⟨rfl, rfl⟩

theorem PipeAt.setEnds {w : World} {P B : Nat} {s : St} (h : PipeAt w P B s) (r t : Nat) (w' : World) (hb : w'.heap[B]? = w.heap[B]?)
    (hc : ∀ o, o < 3 → w'.cell? ⟨P, o, none⟩ = w.cell? ⟨P, o, none⟩) (hf : ∀ o, w'.frozen? ⟨P, o, none⟩ = w.frozen? ⟨P, o, none⟩)
    (h3 : w'.cell? ⟨P, 3, none⟩ = some (.int .i64 r)) (h4 : w'.cell? ⟨P, 4, none⟩ = some (.int .i64 t)) : PipeAt w' P B { s with r := r, t := t } := by
  obtain ⟨f, hr⟩ := h.ring
  exact ⟨⟨f, (hc 0 (by omega)).trans hr.c0, (hc 1 (by omega)).trans hr.c1, (hc 2 (by omega)).trans hr.c2, (hf 1).trans hr.f1, (hf 2).trans hr.f2,
    fun i hi => ⟨(frozen_of_heap (a := ⟨B, i, none⟩) hb).trans (hr.hb i hi).1, by
      obtain ⟨v, hv⟩ := (hr.hb i hi).2
      exact ⟨v, (cell_of_heap (a := ⟨B, i, none⟩) hb).trans hv⟩⟩,
    fun i hi => (cell_of_heap (a := ⟨B, _, none⟩) hb).trans (hr.hd i hi), hr.lt, hr.le, hr.top, hr.ne⟩, h3, h4, (hf 3).trans h.f3, (hf 4).trans h.f4⟩

theorem PipeAt.set3 {w : World} {P B : Nat} {s : St} (h : PipeAt w P B s) (n : Nat) : PipeAt (w.setCell ⟨P, 3, none⟩ (.int .i64 n)) P B { s with r := n } :=
  h.setEnds n s.t _ (Below.heap_setCell _ _ _ _ (Ne.symm h.neq)) (fun o ho => cell_set_ne (by omega)) (fun o => World.frozen?_setCell _ _ _ _)
    (cell_set_same h.c3 rfl) ((cell_set_ne (by omega)).trans h.c4)
theorem PipeAt.set4 {w : World} {P B : Nat} {s : St} (h : PipeAt w P B s) (n : Nat) : PipeAt (w.setCell ⟨P, 4, none⟩ (.int .i64 n)) P B { s with t := n } :=
  h.setEnds s.r n _ (Below.heap_setCell _ _ _ _ (Ne.symm h.neq)) (fun o ho => cell_set_ne (by omega)) (fun o => World.frozen?_setCell _ _ _ _)
    ((cell_set_ne (by omega)).trans h.c3) (cell_set_same h.c4 rfl)

set_option maxHeartbeats 400000 in
theorem open_any {P B : Nat} {s : St} (b : Bool) (w : World) (h : PipeAt w P B s) (hr : s.r < 4611686018427387904) (ht : s.t < 4611686018427387904) :
    Calls Tryz.prog 201 #[.pointer (some ⟨P, 0, none⟩), .bool b] w fun e w' => e = .returned (.tuple #[]) ∧ PipeAt w' P B (s.opened b) ∧ Frame P B w w' := by
  have c3 := h.c3
  have c4 := h.c4
  have f3 := h.f3
  have f4 := h.f4
  cases b
  · go_enter Tryz.func201, Tryz.ntmps201
    go_wp2_with (go_at_call 248; refine (ends_any P _ _).mono ?_; rintro e w' ⟨rfl, rfl⟩)
    go_end0
    exact ⟨rfl, h.set3 (s.r + 1), (Frame.refl P B _).setP _ _⟩
  · go_enter Tryz.func201, Tryz.ntmps201
    go_wp2_with (go_at_call 248; refine (ends_any P _ _).mono ?_; rintro e w' ⟨rfl, rfl⟩)
    go_end0
    exact ⟨rfl, h.set4 (s.t + 1), (Frame.refl P B _).setP _ _⟩

set_option maxHeartbeats 400000 in
theorem close_any {P B : Nat} {s : St} (b : Bool) (w : World) (h : PipeAt w P B s) (hr : s.r < 4611686018427387904) (ht : s.t < 4611686018427387904) :
    Calls Tryz.prog 229 #[.pointer (some ⟨P, 0, none⟩), .bool b] w fun e w' => e = .returned (.int .i64 (s.closeErr b)) ∧ PipeAt w' P B (s.closed b) ∧ Frame P B w w' := by
  have c3 := h.c3
  have c4 := h.c4
  have f3 := h.f3
  have f4 := h.f4
  cases b
  · by_cases e : s.r = 0
    · have e' : ((s.r : Int) == 0) = true := by simp [e]
      have h' : PipeAt w P B (s.closed false) := by
        have : s.closed false = s := by cases s; simp_all [St.closed]
        rw [this]; exact h
      have hn : s.closeErr false = 9 := by simp [St.closeErr, St.closes, e]
      rw [hn]; clear hn e
      go_enter Tryz.func229, Tryz.ntmps229
      go_wp2_with (go_at_call 248; refine (ends_any P _ _).mono ?_; rintro e w' ⟨rfl, rfl⟩)
      go_ret
      exact ⟨rfl, h', Frame.refl P B _⟩
    · have e' : ((s.r : Int) == 0) = false := by simp [e]
      have hn : s.closeErr false = 0 := by simp [St.closeErr, St.closes]; omega
      have h' := h.set3 (s.r - 1)
      rw [show ((s.r - 1 : Nat) : Int) = (s.r : Int) - 1 by omega] at h'
      rw [hn]; clear hn
      go_enter Tryz.func229, Tryz.ntmps229
      go_wp2_with (go_at_call 248; refine (ends_any P _ _).mono ?_; rintro e w' ⟨rfl, rfl⟩)
      go_ret
      exact ⟨rfl, h', (Frame.refl P B _).setP _ _⟩
  · by_cases e : s.t = 0
    · have e' : ((s.t : Int) == 0) = true := by simp [e]
      have h' : PipeAt w P B (s.closed true) := by
        have : s.closed true = s := by cases s; simp_all [St.closed]
        rw [this]; exact h
      have hn : s.closeErr true = 9 := by simp [St.closeErr, St.closes, e]
      rw [hn]; clear hn e
      go_enter Tryz.func229, Tryz.ntmps229
      go_wp2_with (go_at_call 248; refine (ends_any P _ _).mono ?_; rintro e w' ⟨rfl, rfl⟩)
      go_ret
      exact ⟨rfl, h', Frame.refl P B _⟩
    · have e' : ((s.t : Int) == 0) = false := by simp [e]
      have hn : s.closeErr true = 0 := by simp [St.closeErr, St.closes]; omega
      have h' := h.set4 (s.t - 1)
      rw [show ((s.t - 1 : Nat) : Int) = (s.t : Int) - 1 by omega] at h'
      rw [hn]; clear hn
      go_enter Tryz.func229, Tryz.ntmps229
      go_wp2_with (go_at_call 248; refine (ends_any P _ _).mono ?_; rintro e w' ⟨rfl, rfl⟩)
      go_ret
      exact ⟨rfl, h', (Frame.refl P B _).setP _ _⟩

set_option maxHeartbeats 400000 in
theorem endsOf_any {P B : Nat} {s : St} (w : World) (h : PipeAt w P B s) :
    Calls Tryz.prog 93 #[.pointer (some ⟨P, 0, none⟩)] w fun e w' => e = .returned (.tuple #[.int .i64 s.r, .int .i64 s.t]) ∧ ∃ n, w' = w.drewN n := by
  have c3 := h.c3
  have c4 := h.c4
  go_enter Tryz.func93, Tryz.ntmps93
  go_wp2
  go_quiet (fail)
  go_wp2
  go_ret2
  exact ⟨rfl, _, rfl⟩


set_option maxHeartbeats 400000 in
theorem waits_any {P B : Nat} {s : St} (b : Bool) (w : World) (h : PipeAt w P B s) :
    Calls Tryz.prog 86 #[.pointer (some ⟨P, 0, none⟩), .bool b] w fun e w' => e = .returned (.bool (s.waits b)) ∧ ∃ n, w' = w.drewN n := by
  have hH := Lib.hid h
  have c3 := h.c3
  have c4 := h.c4
  obtain ⟨f, hr⟩ := h.ring
  have c2 := hr.c2
  have hle := hr.le
  clear hr h
  cases b
  · by_cases e : 0 < s.t
    · by_cases g : s.data.length = 0
      · have g' : ((s.data.length : Int) == 0) = true := by simp [g]
        have hn : s.waits false = true := by simp [St.waits, e, g]
        rw [hn]; clear hn g
        go_enter Tryz.func86, Tryz.ntmps86
        go_wp2
        go_ret
        exact ⟨rfl, 0, rfl⟩
      · have g' : ((s.data.length : Int) == 0) = false := by simpa using g
        have hn : s.waits false = false := by simp [St.waits, g]
        rw [hn]; clear hn
        go_enter Tryz.func86, Tryz.ntmps86
        go_wp2
        go_ret
        exact ⟨rfl, 0, rfl⟩
    · have hn : s.waits false = false := by simp [St.waits, e]
      have e' : decide ((0 : Int) < s.t) = false := by simp; omega
      rw [hn]; clear hn
      go_enter Tryz.func86, Tryz.ntmps86
      go_wp2
      go_ret
      exact ⟨rfl, 0, rfl⟩
  · by_cases e : 0 < s.r
    · by_cases g : s.data.length = s.size
      · have g' : ((s.size : Int) - s.data.length == 0) = true := by rw [g]; simp
        have hn : s.waits true = true := by simp [St.waits, e, g]
        rw [hn]; clear hn g
        go_enter Tryz.func86, Tryz.ntmps86
        go_wp2_with (go_at_call 135; refine (room_pipe _ hH.out).mono ?_; rintro e w' ⟨rfl, n, rfl⟩)
        go_ret
        exact ⟨rfl, _, rfl⟩
      · have g' : ((s.size : Int) - s.data.length == 0) = false := by simp; omega
        have hn : s.waits true = false := by simp [St.waits, g]
        rw [hn]; clear hn
        go_enter Tryz.func86, Tryz.ntmps86
        go_wp2_with (go_at_call 135; refine (room_pipe _ hH.out).mono ?_; rintro e w' ⟨rfl, n, rfl⟩)
        go_ret
        exact ⟨rfl, _, rfl⟩
    · have hn : s.waits true = false := by simp [St.waits, e]
      have e' : decide ((0 : Int) < s.r) = false := by simp; omega
      rw [hn]; clear hn
      go_enter Tryz.func86, Tryz.ntmps86
      go_wp2
      go_ret
      exact ⟨rfl, 0, rfl⟩
end Go.Proofs.YtmilagppbepnbaaGreat.Pp
/- The contract of a pipe's making: New, at every size. No condition. -/
namespace Go.Proofs.YtmilagppbepnbaaGreat.Pp
open Go.RowKit

theorem Tryz.info5 : (Tryz.prog.info? 5).map (fun i => (i.zero, i.size, i.bytes)) = some (some (.int .u8 0), 1, 1) := by kernel_rfl

set_option maxHeartbeats 400000 in
theorem newRing_any (n : Nat) (hn : 0 < n) (hm : n ≤ 65536) (w : World) :
    Calls Tryz.prog 247 #[.int .i64 n] w fun e w' => e = .returned (.agg #[.slice (some ⟨w.heap.size + 1, 0, none⟩) n n, .int .i64 0, .int .i64 0]) ∧
      ∃ o, w' = (w.alloc o).alloc (.cells (madeCells #[.int .u8 0] n) 5) := by
  obtain ⟨i0, hi, hz0, hz1, hz2⟩ := info_parts Tryz.info5
  have hmk := fun w => run_make (P := Tryz.prog) w 76 5 i0 _ Tryz.underlying76 hi hz0 .i64 .i64 n n (by omega) (by omega) (by rw [hz2]; omega) (by omega)
  simp only [Int.toNat_natCast, hz1, Nat.mul_one] at hmk
  clear hi hz0 hz1 hz2
  go_enter Tryz.func247, Tryz.ntmps247
  go_wp2
  exact bodyPost_ret (v := .agg #[.slice (some ⟨w.heap.size + 1, 0, none⟩) n n, .int .i64 0, .int .i64 0]) (by simp [results, Tryz.results247, go_sem]) rfl ⟨rfl, _, rfl⟩

theorem made_byte (n i : Nat) (hi : i < n) : (madeCells #[.int .u8 0] n)[i]? = some (.int .u8 ((0 : UInt8).toNat : Int)) := by
  simp [madeCells, hi, Nat.mod_one]

theorem heap_new (w : World) (o : Obj) : (w.alloc o).heap[w.heap.size]? = some o := by
  show (w.heap.push o)[w.heap.size]? = _
  simp

theorem pipe_made (w : World) (o : Obj) (n : Nat) (h0 : 0 < n) (h1 : n ≤ 65536) :
    PipeAt (((w.alloc o).alloc (.cells (madeCells #[.int .u8 0] n) 5)).alloc (.cells #[.slice (some ⟨w.heap.size + 1, 0, none⟩) n n, .int .i64 0, .int .i64 0, .int .i64 0, .int .i64 0] 206)) (w.heap.size + 2) (w.heap.size + 1) ⟨n, 0, 0, []⟩ := by
  have hb : ∀ W : World, W.heap.size = w.heap.size + 2 → W.heap[w.heap.size + 1]? = some (.cells (madeCells #[.int .u8 0] n) 5 (0, 0)) →
      PipeAt (W.alloc (.cells #[.slice (some ⟨w.heap.size + 1, 0, none⟩) n n, .int .i64 0, .int .i64 0, .int .i64 0, .int .i64 0] 206)) (w.heap.size + 2) (w.heap.size + 1) ⟨n, 0, 0, []⟩ := by
    intro W hs hB
    have hP : (W.alloc (.cells #[.slice (some ⟨w.heap.size + 1, 0, none⟩) n n, .int .i64 0, .int .i64 0, .int .i64 0, .int .i64 0] 206)).heap[w.heap.size + 2]? = some (.cells #[.slice (some ⟨w.heap.size + 1, 0, none⟩) n n, .int .i64 0, .int .i64 0, .int .i64 0, .int .i64 0] 206 (0, 0)) := by
      rw [← hs]; exact heap_new _ _
    have hB' : (W.alloc (.cells #[.slice (some ⟨w.heap.size + 1, 0, none⟩) n n, .int .i64 0, .int .i64 0, .int .i64 0, .int .i64 0] 206)).heap[w.heap.size + 1]? = some (.cells (madeCells #[.int .u8 0] n) 5 (0, 0)) :=
      (Below.heap_alloc _ _ _ (by omega)).trans hB
    generalize W.alloc (.cells #[.slice (some ⟨w.heap.size + 1, 0, none⟩) n n, .int .i64 0, .int .i64 0, .int .i64 0, .int .i64 0] 206) = V at hP hB'
    refine ⟨⟨0, ?_, ?_, ?_, ?_, ?_, ?_, ?_, h0, by simp, h1, by omega⟩, ?_, ?_, ?_, ?_⟩
    all_goals try (simp [World.cell?, World.frozen?, hP]; done)
    · intro i hi
      refine ⟨by simp [World.frozen?, hB'], 0, ?_⟩
      simp only [World.cell?, hB']
      exact made_byte n i hi
  refine hb _ (by simp) ?_
  have : ((w.alloc o).alloc (.cells (madeCells #[.int .u8 0] n) 5)).heap[(w.alloc o).heap.size]? = some (.cells (madeCells #[.int .u8 0] n) 5 (0, 0)) := heap_new _ _
  simpa using this


set_option maxHeartbeats 400000 in
theorem new_yes (n : Nat) (h0 : 0 < n) (h1 : n ≤ 65536) (w : World) :
    Calls Tryz.prog 200 #[.int .i64 n] w fun e w' => e = .returned (.tuple #[.pointer (some ⟨w.heap.size + 2, 0, none⟩), .int .i64 0]) ∧
      PipeAt w' (w.heap.size + 2) (w.heap.size + 1) ⟨n, 0, 0, []⟩ ∧ Below w.heap.size w w' := by
  go_enter Tryz.func200, Tryz.ntmps200
  go_wp2_with (go_at_call 247; refine (newRing_any _ h0 h1 _).mono ?_; rintro e w' ⟨rfl, o, rfl⟩)
  go_ret2
  exact ⟨rfl, pipe_made w o n h0 h1, (((Below.refl _ w).alloc (Nat.le_refl _) _).alloc (by simp) _).alloc (by simp; omega) _⟩
end Go.Proofs.YtmilagppbepnbaaGreat.Pp
/- The contract of a pipe's Write. Condition: the pipe's cells are as stated. -/
namespace Go.Proofs.YtmilagppbepnbaaGreat.Pp
open Go.RowKit

theorem isEmpty_no (x : ByteArray) (h : x.data.toList ≠ []) : x.toList.isEmpty = false := by
  rw [← decide_eq_emptyBytes]
  simp only [decide_eq_false_iff_not]
  rintro rfl
  exact h rfl

theorem ret2 {a b : Int} (c : Value) (h : a = b) : Ending.returned (.tuple #[.int .i64 a, c]) = .returned (.tuple #[.int .i64 b, c]) := by rw [h]

theorem written_none (s : St) (x : List UInt8) (h : s.wrote x = 0) : s.written x = s := by
  cases s; simp [St.written, h]

set_option maxHeartbeats 400000 in
theorem write_broken {P B : Nat} {s : St} (x : ByteArray) (w : World) (h : PipeAt w P B s) (hr : s.r = 0) :
    Calls Tryz.prog 193 #[.pointer (some ⟨P, 0, none⟩), .string x] w fun e w' => e = .returned (.tuple #[.int .i64 0, .int .i64 32]) ∧ w' = w := by
  have c3 := h.c3
  rw [hr] at c3
  clear hr h
  go_enter Tryz.func193, Tryz.ntmps193
  go_wp2
  go_ret2
  exact ⟨rfl, rfl⟩

set_option maxHeartbeats 400000 in
theorem write_empty {P B : Nat} {s : St} (x : ByteArray) (w : World) (h : PipeAt w P B s) (hr : 0 < s.r) (hx : x.data.toList = []) :
    Calls Tryz.prog 193 #[.pointer (some ⟨P, 0, none⟩), .string x] w fun e w' => e = .returned (.tuple #[.int .i64 0, .int .i64 0]) ∧ w' = w := by
  have c3 := h.c3
  have hr' : ((s.r : Int) == 0) = false := by simp; omega
  obtain ⟨⟨xs⟩⟩ := x
  obtain rfl : xs = [] := hx
  clear hr h
  go_enter Tryz.func193, Tryz.ntmps193
  go_wp2
  go_ret2
  exact ⟨rfl, rfl⟩

set_option maxHeartbeats 400000 in
theorem write_full {P B : Nat} {s : St} (x : ByteArray) (w : World) (h : PipeAt w P B s) (hr : 0 < s.r) (hx : x.data.toList ≠ []) (hf : s.data.length = s.size) :
    Calls Tryz.prog 193 #[.pointer (some ⟨P, 0, none⟩), .string x] w fun e w' => e = .returned (.tuple #[.int .i64 0, .int .i64 11]) ∧ ∃ n, w' = w.drewN n := by
  have c3 := h.c3
  have hr' : ((s.r : Int) == 0) = false := by simp; omega
  have hf' : ((s.size : Int) - s.data.length == 0) = true := by simp; omega
  have hx' := isEmpty_no x hx
  have hH := Lib.hid h
  clear hr h hf hx
  go_enter Tryz.func193, Tryz.ntmps193
  go_wp2_with (go_at_call 135; refine (room_pipe _ hH.out).mono ?_; rintro e w' ⟨rfl, n, rfl⟩)
  go_ret2
  exact ⟨rfl, _, rfl⟩

theorem room_m {P B : Nat} {s : St} (m : Nat) (hm : Hid (s.data.length + m = s.size)) (w : World) (h : PipeAt w P B s) :
    Calls Tryz.prog 135 #[.pointer (some ⟨P, 0, none⟩)] w fun e w' => e = .returned (.int .i64 m) ∧ ∃ n, w' = w.drewN n :=
  (room_pipe w h).mono fun e w' ⟨he, hw⟩ => ⟨by rw [he, show (s.size : Int) - s.data.length = m by have := hm.out; omega], hw⟩

set_option maxRecDepth 100000 in
set_option maxHeartbeats 400000 in
theorem write_some {P B : Nat} {s : St} (x : ByteArray) (m k : Nat) (hm : Hid (s.data.length + m = s.size)) (hk : Hid (k = min x.size m)) (w : World) (h : PipeAt w P B s) (hr : 0 < s.r) (hx : x.data.toList ≠ []) (hf : 0 < m) (hs : x.size ≤ 9223372036854775807) :
    Calls Tryz.prog 193 #[.pointer (some ⟨P, 0, none⟩), .string x] w fun e w' => e = .returned (.tuple #[.int .i64 k, .int .i64 0]) ∧
      PipeAt w' P B { s with data := s.data ++ x.data.toList.take k } ∧ Frame P B w w' := by
  have c3 := h.c3
  have hr' : ((s.r : Int) == 0) = false := by simp; omega
  have hf' : ((m : Int) == 0) = false := by simp; omega
  have hH := Lib.hid h
  have htop := h.ok.2.1
  have hx' := isEmpty_no x hx
  clear hr h hx
  by_cases hle : x.size ≤ m
  all_goals
   go_enter Tryz.func193, Tryz.ntmps193
   go_wp2_with (go_at_call 135; refine (room_m m hm _ (show PipeAt _ P B s from (by first | exact hH.out | exact hH.out.keep ⟨rfl, rfl⟩))).mono ?_; rintro e w' ⟨rfl, n, rfl⟩)
   go_loopw [34] (fun i wr => ∃ j : Nat, j ≤ k ∧ i = .int .i64 j ∧ PipeAt wr P B { s with data := s.data ++ x.data.toList.take j } ∧ Frame P B w wr) (fun i _ => k - (intOf i).toNat)
   case atStart => exact ⟨0, Nat.zero_le _, rfl, by rw [List.take_zero, List.append_nil]; exact hH.out.keep ⟨rfl, rfl⟩, (Frame.refl P B w).drewN _⟩
   case round =>
    obtain ⟨j, hj, rfl, hP, hF⟩ := hrel
    have hkb : k ≤ x.size ∧ k ≤ m := by have := hk.out; omega
    have hPH := Lib.hid (hP.keep (w' := wr.drew) ⟨rfl, rfl⟩)
    clear hP
    by_cases hjk : j < k
    · have hjx : (j : Int) < x.size := by omega
      have hjm : (j : Int) < m := by omega
      have hjxn : j < x.size := by omega
      have hl : Hid ((s.data ++ x.data.toList.take j).length < s.size) := by
        show _ < _
        simp only [List.length_append, List.length_take]; have := hm.out; omega
      go_wp2_with fail
      go_still_tail 6, (by kernel_rfl)
      change wpList _ _ _ _ _ wr.drew
      go_wp2_with (go_at_call 244; refine (push_pipe x[j] _ hPH.out hl.out).mono ?_; rintro e w' ⟨rfl, hP', hF'⟩)
      have hH' := Lib.hid hP'
      clear hP'
      go_wp2
      go_roundw
      case rel =>
        refine ⟨j + 1, by omega, by go_num, ?_, (hF.drew).trans hF'⟩
        have := hH'.out
        rw [List.append_assoc] at this
        rw [List.take_succ_eq_append_getElem (by simpa using hjxn)]
        exact this
      case measure => simp [intOf]; omega
    · have hE : Hid ((x.size ≤ m ∧ (x.size : Int) = k ∨ ¬ x.size ≤ m ∧ (m : Int) = k) ∧ j = k) := by
        have := hk.out
        exact ⟨by omega, by omega⟩
      first
        | (have hge : x.size ≤ j := by have := hE.out; omega)
        | (have hge : m ≤ j := by have := hE.out; omega)
      clear hjk
      go_wp2
      go_ret2
      refine ⟨?_, ?_, hF⟩
      · first
          | exact ret2 _ (show (x.size : Int) = k by have := hE.out; omega)
          | exact ret2 _ (show (m : Int) = k by have := hE.out; omega)
      · rw [← hE.out.2]; exact hPH.out.keep ⟨rfl, rfl⟩

theorem write_any {P B : Nat} {s : St} (x : ByteArray) (w : World) (h : PipeAt w P B s) (hs : x.size ≤ maxLen) :
    Calls Tryz.prog 193 #[.pointer (some ⟨P, 0, none⟩), .string x] w fun e w' =>
      e = .returned (.tuple #[.int .i64 (s.wrote x.data.toList), .int .i64 (s.writeErr x.data.toList)]) ∧ PipeAt w' P B (s.written x.data.toList) ∧ Frame P B w w' := by
  unfold maxLen at hs
  have hlen : x.data.toList.length = x.size := by simp
  obtain ⟨k0, k1, k2⟩ := h.ok
  by_cases hr : s.r = 0
  · have e1 : s.wrote x.data.toList = 0 := by simp [St.wrote, hr]
    refine (write_broken x w h hr).mono ?_
    rintro e w' ⟨he, rfl⟩
    exact ⟨by rw [he, e1]; simp [St.writeErr, hr], by rw [written_none _ _ e1]; exact h, Frame.refl _ _ _⟩
  by_cases hx : x.data.toList = []
  · have e1 : s.wrote x.data.toList = 0 := by simp [St.wrote, hx]
    refine (write_empty x w h (by omega) hx).mono ?_
    rintro e w' ⟨he, rfl⟩
    exact ⟨by rw [he, e1]; simp [St.writeErr, hr, hx], by rw [written_none _ _ e1]; exact h, Frame.refl _ _ _⟩
  by_cases hf : s.data.length = s.size
  · have e1 : s.wrote x.data.toList = 0 := by simp [St.wrote, hf]
    refine (write_full x w h (by omega) hx hf).mono ?_
    rintro e w' ⟨he, n, rfl⟩
    exact ⟨by rw [he, e1]; simp [St.writeErr, hr, hx, hf], by rw [written_none _ _ e1]; exact h.keep ⟨rfl, rfl⟩, (Frame.refl _ _ _).drewN _⟩
  · have e1 : s.wrote x.data.toList = min x.size (s.size - s.data.length) := by rw [St.wrote, if_neg hr, hlen]
    refine (write_some x (s.size - s.data.length) (s.wrote x.data.toList) (show _ = _ by omega) e1 w h (by omega) hx (by omega) hs).mono ?_
    rintro e w' ⟨he, hP, hF⟩
    exact ⟨by rw [he, St.writeErr, if_neg hr, if_neg hx, if_neg (by omega)], hP, hF⟩
end Go.Proofs.YtmilagppbepnbaaGreat.Pp
/- The contract of a pipe's Read. Condition: the pipe's cells are as stated. -/
namespace Go.Proofs.YtmilagppbepnbaaGreat.Pp
open Go.RowKit

/-- A row of k bytes at block S, the first of which are l. -/
structure Buf (w : World) (S k : Nat) (l : List UInt8) : Prop where
  lt : S < w.heap.size
  all : ∀ i, i < k → w.frozen? ⟨S, i, none⟩ = false ∧ ∃ v, w.cell? ⟨S, i, none⟩ = some (.int .u8 v)
  have_ : ∀ i (h : i < l.length), w.cell? ⟨S, i, none⟩ = some (.int .u8 l[i].toNat)
  le : l.length ≤ k

theorem Buf.keep {w w' : World} {S k : Nat} {l : List UInt8} (h : Buf w S k l) (hs : w.heap.size ≤ w'.heap.size) (hk : w'.heap[S]? = w.heap[S]?) : Buf w' S k l :=
  ⟨Nat.lt_of_lt_of_le h.lt hs, fun i hi => ⟨(frozen_of_heap (a := ⟨S, i, none⟩) hk).trans (h.all i hi).1, by
    obtain ⟨v, hv⟩ := (h.all i hi).2
    exact ⟨v, (cell_of_heap (a := ⟨S, i, none⟩) hk).trans hv⟩⟩, fun i hi => (cell_of_heap (a := ⟨S, i, none⟩) hk).trans (h.have_ i hi), h.le⟩

theorem Buf.store {w : World} {S k j : Nat} {l : List UInt8} (h : Buf w S k l) (hj : l.length = j) (hl : j < k) (x : UInt8) : Buf (w.setCell ⟨S, j, none⟩ (.int .u8 x.toNat)) S k (l ++ [x]) := by
  subst hj
  obtain ⟨v, hv⟩ := (h.all _ hl).2
  refine ⟨by simpa [World.setCell] using h.lt, fun i hi => ⟨by rw [World.frozen?_setCell]; exact (h.all i hi).1, ?_⟩, fun i hi => ?_, by simp; omega⟩
  · by_cases e : l.length = i
    · subst e; exact ⟨_, cell_set_same hv rfl⟩
    · obtain ⟨u, hu⟩ := (h.all i hi).2
      exact ⟨u, (cell_set_ne (.inr e)).trans hu⟩
  · by_cases e : i < l.length
    · rw [cell_set_ne (by omega), h.have_ i e]; simp [List.getElem_append_left, e]
    · obtain rfl : i = l.length := by simp at hi; omega
      rw [cell_set_same hv rfl]; simp

theorem Buf.made (w : World) (k : Nat) : Buf (w.alloc (.cells (madeCells #[.int .u8 0] k) 5)) w.heap.size k [] := by
  have hB := heap_new w (.cells (madeCells #[.int .u8 0] k) 5)
  refine ⟨by simp, fun i hi => ⟨by unfold World.frozen?; rw [hB]; simp, ((0 : UInt8).toNat : Int), ?_⟩, fun i hi => by simp at hi, by simp⟩
  simp only [World.cell?, hB]
  exact made_byte k i hi

theorem Buf.text {w : World} {S k : Nat} {l : List UInt8} (h : Buf w S k l) (hk : l.length = k) :
    (convert 76 9 (.slice (some ⟨S, 0, none⟩) k k)).run Tryz.prog w = .ok (.string ⟨l.toArray⟩) w := by
  subst hk
  refine run_convert_bytes_back w 76 9 5 ⟨S, 0, none⟩ l.length l Tryz.underlying76 Tryz.underlying5 Tryz.underlying9 fun j hj => ?_
  have e : (⟨S, 0, none⟩ : Addr).add j = ⟨S, j, none⟩ := by
    unfold Addr.add
    split
    · simp_all
    · simp
  rw [e]
  exact h.have_ j hj

theorem Frame.setNew {P B : Nat} {a w : World} (h : Frame P B a w) (S o : Nat) (hS : a.heap.size ≤ S) (u : Value) : Frame P B a (w.setCell ⟨S, o, none⟩ u) :=
  ⟨h.os, h.tape, h.output, by simpa [World.setCell] using h.size, fun k hk h1 h2 => (Below.heap_setCell _ _ _ _ (by simp only; omega)).trans (h.block k hk h1 h2)⟩

theorem waits_v {P B : Nat} {s : St} (b v : Bool) (hv : Hid (s.waits b = v)) (w : World) (h : PipeAt w P B s) :
    Calls Tryz.prog 86 #[.pointer (some ⟨P, 0, none⟩), .bool b] w fun e w' => e = .returned (.bool v) ∧ ∃ n, w' = w.drewN n :=
  (waits_any b w h).mono fun e w' ⟨he, hw⟩ => ⟨by rw [he, hv.out], hw⟩

set_option maxHeartbeats 400000 in
theorem read_neg {P : Nat} (n : Int) (hn : n < 0) (w : World) :
    Calls Tryz.prog 191 #[.pointer (some ⟨P, 0, none⟩), .int .i64 n] w fun e w' => e = .returned (.tuple #[.string ⟨#[]⟩, .int .i64 22]) ∧ w' = w := by
  go_enter Tryz.func191, Tryz.ntmps191
  go_wp2
  go_ret2
  exact ⟨rfl, rfl⟩

set_option maxHeartbeats 400000 in
theorem read_waits {P B : Nat} {s : St} (n : Int) (hn : 0 < n) (w : World) (h : PipeAt w P B s) (hw : Hid (s.waits false = true)) :
    Calls Tryz.prog 191 #[.pointer (some ⟨P, 0, none⟩), .int .i64 n] w fun e w' => e = .returned (.tuple #[.string ⟨#[]⟩, .int .i64 11]) ∧ ∃ n, w' = w.drewN n := by
  have hH := Lib.hid h
  clear h
  go_enter Tryz.func191, Tryz.ntmps191
  go_wp2_with (go_at_call 86; refine (waits_v _ _ hw _ hH.out).mono ?_; rintro e w' ⟨rfl, n, rfl⟩)
  go_ret2
  exact ⟨rfl, _, rfl⟩

set_option maxRecDepth 100000 in
set_option maxHeartbeats 600000 in
theorem read_some {P B : Nat} {s : St} (N k : Nat) (hk : Hid (k = min N s.data.length)) (w : World) (h : PipeAt w P B s) (hw : Hid (0 < N → s.waits false = false)) :
    Calls Tryz.prog 191 #[.pointer (some ⟨P, 0, none⟩), .int .i64 N] w fun e w' => e = .returned (.tuple #[.string ⟨(s.data.take k).toArray⟩, .int .i64 0]) ∧
      PipeAt w' P B { s with data := s.data.drop k } ∧ Frame P B w w' := by
  obtain ⟨f, hr⟩ := h.ring
  have c2 := hr.c2
  have htop := h.ok.2.1
  have hlen := h.ok.2.2
  have ltP := hr.ltP
  have ltB := hr.ltB
  clear hr
  have hH := Lib.hid h
  clear h
  obtain ⟨L, hL⟩ : ∃ L, s.data.length = L := ⟨_, rfl⟩
  have hk1 := hk.out
  rw [hL] at c2 hlen hk1
  have hLH := Lib.hid hL
  clear hL hk
  have hkL : k ≤ L := by omega
  obtain ⟨i0, hi, hz0, hz1, hz2⟩ := info_parts Tryz.info5
  have hmk := run_make (P := Tryz.prog) (w := w) 76 5 i0 _ Tryz.underlying76 hi hz0 .i64 .i64 k k (by omega) (by omega) (by rw [hz2]; omega) (by omega)
  have hmkd := fun n => run_make (P := Tryz.prog) (w := w.drewN n) 76 5 i0 _ Tryz.underlying76 hi hz0 .i64 .i64 k k (by omega) (by omega) (by rw [hz2]; omega) (by omega)
  simp only [Int.toNat_natCast, hz1, Nat.mul_one, World.heap_drewN] at hmk hmkd
  clear hi hz0 hz1 hz2
  have hcase : (k = N ∧ N ≤ L ∧ 0 < N) ∨ (k = N ∧ N = 0) ∨ (k = L ∧ L < N) := by omega
  have hkc := Lib.hid hk1
  clear hk1
  have hbuf := Lib.hid (Buf.made w k)
  have hbufd := Lib.hid fun n => Buf.made (w.drewN n) k
  rcases hcase with ⟨h1, h2, h3⟩ | ⟨h1, h2⟩ | ⟨h1, h2⟩
  · subst h1
    have hw' : Hid (s.waits false = false) := hw.out h3
    go_enter Tryz.func191, Tryz.ntmps191
    go_wp2_with (go_at_call 86; refine (waits_v _ _ hw' _ hH.out).mono ?_; rintro e w' ⟨rfl, n, rfl⟩)
    have hst := Lib.hid (Buf.made (w.drewN n) k)
    have hfr : Frame P B w ((w.drewN n).alloc (.cells (madeCells #[.int .u8 0] k) 5)) := ((Frame.refl P B w).drewN n).alloc _
    have hpi := Lib.hid (hH.out.keep (w' := (w.drewN n).alloc (.cells (madeCells #[.int .u8 0] k) 5)) ⟨Below.heap_alloc _ _ _ ltP, Below.heap_alloc _ _ _ ltB⟩)
    change Hid (Buf _ w.heap.size _ _) at hst
    generalize (w.drewN n).alloc (.cells (madeCells #[.int .u8 0] k) 5) = w0 at hst hfr hpi ⊢
    go_loopw [31] (fun i wr => ∃ j : Nat, j ≤ k ∧ i = .int .i64 j ∧ PipeAt wr P B { s with data := s.data.drop j } ∧ Buf wr w.heap.size k (s.data.take j) ∧ Frame P B w wr) (fun i _ => k - (intOf i).toNat)
    case atStart => exact ⟨0, Nat.zero_le _, rfl, hpi.out, by simpa using hst.out, hfr⟩
    case round =>
      obtain ⟨j, hj, rfl, hP, hB, hF⟩ := hrel
      have hPH := Lib.hid hP
      have hBH := Lib.hid hB
      clear hP hB hst hpi
      by_cases hjk : j < k
      · have hjs : j < s.data.length := by have := hLH.out; omega
        have hx := Lib.hid (List.drop_eq_getElem_cons hjs)
        go_wp2_with fail
        refine (pop_pipe _ _ _ hPH.out hx.out).mono ?_
        rintro e w1 ⟨rfl, hP1, hF1⟩
        have hB1 := hBH.out.keep hF1.size (hF1.block _ hBH.out.lt (by omega) (by omega))
        have hfz := (hB1.all j hjk).1
        obtain ⟨v, hcell⟩ := (hB1.all j hjk).2
        have hP2 := Lib.hid hP1
        have hB2 := Lib.hid hB1
        clear hP1 hB1
        go_wp2
        go_roundw
        case rel =>
          refine ⟨j + 1, by omega, by go_num, hP2.out.keep ⟨Below.heap_setCell _ _ _ _ (by simp only; omega), Below.heap_setCell _ _ _ _ (by simp only; omega)⟩, ?_, (hF.trans hF1).setNew _ _ (Nat.le_refl _) _⟩
          rw [List.take_succ_eq_append_getElem hjs]
          exact hB2.out.store (by rw [List.length_take]; omega) hjk _
        case measure => simp [intOf]; omega
      · obtain rfl : j = k := by omega
        have hcv := hBH.out.text (by rw [List.length_take]; have := hLH.out; omega)
        go_wp2
        go_ret2
        exact ⟨rfl, hPH.out, hF⟩
  · subst h1
    subst h2
    have hmk0 : (Instr.makeSlice 76 (.int .i64 0) (.int .i64 0)).run Tryz.prog w = .ok (.slice (some ⟨w.heap.size, 0, none⟩) 0 0) (w.alloc (.cells (madeCells (Value.int .u8 0).cells 0) 5)) := hmk
    clear hmk hmkd
    go_enter Tryz.func191, Tryz.ntmps191
    go_wp2
    have hst := Lib.hid (Buf.made w 0)
    have hfr : Frame P B w (w.alloc (.cells (madeCells #[.int .u8 0] 0) 5)) := (Frame.refl P B w).alloc _
    have hpi := Lib.hid (hH.out.keep (w' := w.alloc (.cells (madeCells #[.int .u8 0] 0) 5)) ⟨Below.heap_alloc _ _ _ ltP, Below.heap_alloc _ _ _ ltB⟩)
    generalize w.alloc (.cells (madeCells #[.int .u8 0] 0) 5) = w0 at hst hfr hpi ⊢
    go_loopw [31] (fun i wr => ∃ j : Nat, j ≤ 0 ∧ i = .int .i64 j ∧ PipeAt wr P B { s with data := s.data.drop j } ∧ Buf wr w.heap.size 0 (s.data.take j) ∧ Frame P B w wr) (fun i _ => 0 - (intOf i).toNat)
    case atStart => exact ⟨0, Nat.zero_le _, rfl, hpi.out, by simpa using hst.out, hfr⟩
    case round =>
      obtain ⟨j, hj, rfl, hP, hB, hF⟩ := hrel
      have hPH := Lib.hid hP
      have hBH := Lib.hid hB
      clear hP hB hst hpi
      by_cases hjk : j < 0
      · exact absurd hjk (by omega)
      · obtain rfl : j = 0 := by omega
        have hcv := hBH.out.text (by rw [List.length_take]; have := hLH.out; omega)
        go_wp2
        go_ret2
        exact ⟨rfl, hPH.out, hF⟩
  · subst h1
    have hw' : Hid (s.waits false = false) := hw.out (by omega)
    go_enter Tryz.func191, Tryz.ntmps191
    go_wp2_with (go_at_call 86; refine (waits_v _ _ hw' _ hH.out).mono ?_; rintro e w' ⟨rfl, n, rfl⟩)
    have hst := Lib.hid (Buf.made (w.drewN n) k)
    have hfr : Frame P B w ((w.drewN n).alloc (.cells (madeCells #[.int .u8 0] k) 5)) := ((Frame.refl P B w).drewN n).alloc _
    have hpi := Lib.hid (hH.out.keep (w' := (w.drewN n).alloc (.cells (madeCells #[.int .u8 0] k) 5)) ⟨Below.heap_alloc _ _ _ ltP, Below.heap_alloc _ _ _ ltB⟩)
    change Hid (Buf _ w.heap.size _ _) at hst
    generalize (w.drewN n).alloc (.cells (madeCells #[.int .u8 0] k) 5) = w0 at hst hfr hpi ⊢
    go_loopw [31] (fun i wr => ∃ j : Nat, j ≤ k ∧ i = .int .i64 j ∧ PipeAt wr P B { s with data := s.data.drop j } ∧ Buf wr w.heap.size k (s.data.take j) ∧ Frame P B w wr) (fun i _ => k - (intOf i).toNat)
    case atStart => exact ⟨0, Nat.zero_le _, rfl, hpi.out, by simpa using hst.out, hfr⟩
    case round =>
      obtain ⟨j, hj, rfl, hP, hB, hF⟩ := hrel
      have hPH := Lib.hid hP
      have hBH := Lib.hid hB
      clear hP hB hst hpi
      by_cases hjk : j < k
      · have hjs : j < s.data.length := by have := hLH.out; omega
        have hx := Lib.hid (List.drop_eq_getElem_cons hjs)
        go_wp2_with fail
        refine (pop_pipe _ _ _ hPH.out hx.out).mono ?_
        rintro e w1 ⟨rfl, hP1, hF1⟩
        have hB1 := hBH.out.keep hF1.size (hF1.block _ hBH.out.lt (by omega) (by omega))
        have hfz := (hB1.all j hjk).1
        obtain ⟨v, hcell⟩ := (hB1.all j hjk).2
        have hP2 := Lib.hid hP1
        have hB2 := Lib.hid hB1
        clear hP1 hB1
        go_wp2
        go_roundw
        case rel =>
          refine ⟨j + 1, by omega, by go_num, hP2.out.keep ⟨Below.heap_setCell _ _ _ _ (by simp only; omega), Below.heap_setCell _ _ _ _ (by simp only; omega)⟩, ?_, (hF.trans hF1).setNew _ _ (Nat.le_refl _) _⟩
          rw [List.take_succ_eq_append_getElem hjs]
          exact hB2.out.store (by rw [List.length_take]; omega) hjk _
        case measure => simp [intOf]; omega
      · obtain rfl : j = k := by omega
        have hcv := hBH.out.text (by rw [List.length_take]; have := hLH.out; omega)
        go_wp2
        go_ret2
        exact ⟨rfl, hPH.out, hF⟩

theorem read_any {P B : Nat} {s : St} (n : Int) (w : World) (h : PipeAt w P B s) (hb : n ≤ 9223372036854775807) :
    Calls Tryz.prog 191 #[.pointer (some ⟨P, 0, none⟩), .int .i64 n] w fun e w' =>
      e = .returned (.tuple #[.string ⟨(if s.readErr n = 0 then s.got n else []).toArray⟩, .int .i64 (s.readErr n)]) ∧ PipeAt w' P B (if s.readErr n = 0 then s.read n else s) ∧ Frame P B w w' := by
  by_cases hn : n < 0
  · have e1 : s.readErr n = 22 := by simp [St.readErr, hn]
    refine (read_neg n hn w).mono ?_
    rintro e w' ⟨he, rfl⟩
    rw [e1]
    exact ⟨he, h, Frame.refl _ _ _⟩
  by_cases hw : 0 < n ∧ s.data.length = 0 ∧ 0 < s.t
  · have e1 : s.readErr n = 11 := by simp [St.readErr, hn, hw]
    refine (read_waits n hw.1 w h (show _ = _ by simp [St.waits, hw])).mono ?_
    rintro e w' ⟨he, m, rfl⟩
    rw [e1]
    exact ⟨he, h.keep ⟨rfl, rfl⟩, (Frame.refl _ _ _).drewN _⟩
  · have e1 : s.readErr n = 0 := by simp only [St.readErr, if_neg hn, if_neg hw]
    obtain ⟨N, rfl⟩ := Int.eq_ofNat_of_zero_le (show 0 ≤ n by omega)
    refine (read_some N (min N s.data.length) rfl w h (fun h0 => ?_)).mono ?_
    · have : ¬ (s.data.length = 0 ∧ 0 < s.t) := fun g => hw ⟨by omega, g⟩
      simp only [St.waits]
      by_cases g : s.data.length = 0
      · have : ¬ 0 < s.t := fun g' => this ⟨g, g'⟩
        simp [this]
      · simp [g]
    · rintro e w' ⟨he, hP, hF⟩
      rw [e1, if_pos rfl, if_pos rfl]
      refine ⟨?_, ?_, hF⟩
      · rw [he]; simp [St.got, List.take_eq_take_min]
      · have : s.data.drop (min N s.data.length) = s.data.drop N := by
          rcases Nat.le_total N s.data.length with g | g
          · rw [Nat.min_eq_left g]
          · rw [Nat.min_eq_right g, List.drop_length, List.drop_eq_nil_of_le g]
        rw [this] at hP
        exact hP
end Go.Proofs.YtmilagppbepnbaaGreat.Pp
