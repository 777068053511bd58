/- The contracts of the ring of bytes below a pipe: what room, push and pop do to memory. Conditions: the ring's cells are as stated. -/
import Derived.Test.YtifoanmoadogoaaPipeM
import Derived.Deep.QuietTactic
import Derived.BigQuiet
import Derived.Lib.Hide
import Derived.BigRegion
namespace Go.Proofs.Ytifoanmoadogoaa
open Go.RowKit

set_option maxHeartbeats 400000 in
theorem room_any (P B size cnt : Nat) (w : World) (h0 : w.cell? ⟨P, 0, none⟩ = some (.slice (some ⟨B, 0, none⟩) size size))
    (h2 : w.cell? ⟨P, 2, none⟩ = some (.int .i64 cnt)) (hs : size ≤ 65536) (hc : cnt ≤ size) :
    Calls Try.prog 44 #[.pointer (some ⟨P, 0, none⟩)] w fun e w' => e = .returned (.int .i64 ((size : Int) - cnt)) ∧ ∃ n, w' = w.drewN n := by
  go_enter Try.func44, Try.ntmps44
  go_wp2
  go_quiet (fail)
  go_wp2
  go_ret
  exact ⟨rfl, _, rfl⟩

set_option maxRecDepth 100000 in
set_option maxHeartbeats 400000 in
theorem push_any (P B size first cnt : Nat) (x : Int) (w : World) (h0 : w.cell? ⟨P, 0, none⟩ = some (.slice (some ⟨B, 0, none⟩) size size))
    (h1 : w.cell? ⟨P, 1, none⟩ = some (.int .i64 first)) (h2 : w.cell? ⟨P, 2, none⟩ = some (.int .i64 cnt)) (hs : size ≤ 65536) (hf : first < size) (hc : cnt < size)
    (hb : w.frozen? ⟨B, (first + cnt) % size, none⟩ = false) (v : Value) (hv : w.cell? ⟨B, (first + cnt) % size, none⟩ = some v) (hp2 : w.frozen? ⟨P, 2, none⟩ = false) (hPB : P ≠ B) :
    Calls Try.prog 45 #[.pointer (some ⟨P, 0, none⟩), .int .u8 x] w fun e w' => e = .returned (.tuple #[]) ∧
      ∃ n, w' = ((w.setCell ⟨B, (first + cnt) % size, none⟩ (.int .u8 x)).setCell ⟨P, 2, none⟩ (.int .i64 ((cnt : Int) + 1))).drewN n := by
  have b1 : 0 ≤ ((first : Int) + cnt) % size := Int.emod_nonneg _ (by omega)
  have b2 : ((first : Int) + cnt) % size < size := Int.emod_lt_of_pos _ (by omega)
  have b3 : ¬ size = 0 := by omega
  go_enter Try.func45, Try.ntmps45
  go_wp2
  go_region
  go_wp2
  go_end0
  exact ⟨rfl, _, rfl⟩

set_option maxHeartbeats 400000 in
theorem pop_any (P B size first cnt : Nat) (x : Int) (w : World) (h0 : w.cell? ⟨P, 0, none⟩ = some (.slice (some ⟨B, 0, none⟩) size size))
    (h1 : w.cell? ⟨P, 1, none⟩ = some (.int .i64 first)) (h2 : w.cell? ⟨P, 2, none⟩ = some (.int .i64 ((cnt : Int) + 1))) (hs : size ≤ 65536) (hf : first < size) (hc : cnt < size)
    (hv : w.cell? ⟨B, first, none⟩ = some (.int .u8 x)) (hp1 : w.frozen? ⟨P, 1, none⟩ = false) (hp2 : w.frozen? ⟨P, 2, none⟩ = false) :
    Calls Try.prog 46 #[.pointer (some ⟨P, 0, none⟩)] w fun e w' => e = .returned (.int .u8 x) ∧
      ∃ n, w' = ((w.setCell ⟨P, 1, none⟩ (.int .i64 (((first : Int) + 1) % size))).setCell ⟨P, 2, none⟩ (.int .i64 cnt)).drewN n := by
  have b1 : 0 ≤ ((first : Int) + 1) % size := Int.emod_nonneg _ (by omega)
  have b2 : ((first : Int) + 1) % size < size := Int.emod_lt_of_pos _ (by omega)
  have b3 : ¬ size = 0 := by omega
  have b4 : (first : Int) < size := by omega
  go_enter Try.func46, Try.ntmps46
  go_wp2
  go_quiet (fail)
  go_wp2
  go_region
  go_wp2
  go_ret
  exact ⟨rfl, _, rfl⟩

theorem push_pipe {P B : Nat} {s : St} (x : UInt8) (w : World) (h : PipeAt w P B s) (hl : s.data.length < s.size) :
    Calls Try.prog 45 #[.pointer (some ⟨P, 0, none⟩), .int .u8 x.toNat] w fun e w' => e = .returned (.tuple #[]) ∧ PipeAt w' P B { s with data := s.data ++ [x] } ∧ Frame P B w w' := by
  obtain ⟨f, hr⟩ := h.ring
  have hm : (f + s.data.length) % s.size < s.size := Nat.mod_lt _ (by omega)
  obtain ⟨v, hv⟩ := (hr.hb _ hm).2
  refine (push_any P B s.size f s.data.length _ w hr.c0 hr.c1 hr.c2 hr.top hr.lt hl (hr.hb _ hm).1 _ hv hr.f2 hr.ne).mono ?_
  rintro e w' ⟨he, n, rfl⟩
  have hne := hr.ne
  refine ⟨he, ?_, (((Frame.refl P B w).setB _ _).setP _ _).drewN n⟩
  refine ⟨⟨f, (hr.push x hl).keep ⟨rfl, rfl⟩⟩, ?_, ?_, ?_, ?_⟩
  · rw [World.cell?_drewN, cell_set_ne (by omega), cell_set_ne (by omega)]; exact h.c3
  · rw [World.cell?_drewN, cell_set_ne (by omega), cell_set_ne (by omega)]; exact h.c4
  · rw [World.frozen?_drewN, World.frozen?_setCell, World.frozen?_setCell]; exact h.f3
  · rw [World.frozen?_drewN, World.frozen?_setCell, World.frozen?_setCell]; exact h.f4

theorem pop_pipe {P B : Nat} {s : St} (x : UInt8) (rest : List UInt8) (w : World) (h : PipeAt w P B s) (hx : s.data = x :: rest) :
    Calls Try.prog 46 #[.pointer (some ⟨P, 0, none⟩)] w fun e w' => e = .returned (.int .u8 x.toNat) ∧ PipeAt w' P B { s with data := rest } ∧ Frame P B w w' := by
  obtain ⟨f, hr⟩ := h.ring
  rw [hx] at hr
  have hlt := hr.lt
  have hle := hr.le
  have hne := hr.ne
  simp only [List.length_cons] at hle
  have c2 := hr.c2
  have cv := hr.hd 0 (by simp)
  rw [Nat.add_zero, Nat.mod_eq_of_lt hlt] at cv
  simp only [List.length_cons, Int.natCast_add, Int.cast_ofNat_Int] at c2
  refine (pop_any P B s.size f rest.length _ w hr.c0 hr.c1 c2 hr.top hlt (by omega) cv hr.f1 hr.f2).mono ?_
  rintro e w' ⟨he, n, rfl⟩
  refine ⟨he, ?_, (((Frame.refl P B w).setP _ _).setP _ _).drewN n⟩
  refine ⟨⟨(f + 1) % s.size, ?_⟩, ?_, ?_, ?_, ?_⟩
  · have := hr.pop
    rw [show (((f + 1) % s.size : Nat) : Int) = ((f : Int) + 1) % s.size by push_cast; rfl] at this
    exact this.keep ⟨rfl, rfl⟩
  · rw [World.cell?_drewN, cell_set_ne (by omega), cell_set_ne (by omega)]; exact h.c3
  · rw [World.cell?_drewN, cell_set_ne (by omega), cell_set_ne (by omega)]; exact h.c4
  · rw [World.frozen?_drewN, World.frozen?_setCell, World.frozen?_setCell]; exact h.f3
  · rw [World.frozen?_drewN, World.frozen?_setCell, World.frozen?_setCell]; exact h.f4

theorem room_pipe {P B : Nat} {s : St} (w : World) (h : PipeAt w P B s) :
    Calls Try.prog 44 #[.pointer (some ⟨P, 0, none⟩)] w fun e w' => e = .returned (.int .i64 ((s.size : Int) - s.data.length)) ∧ ∃ n, w' = w.drewN n := by
  obtain ⟨f, hr⟩ := h.ring
  exact room_any P B _ _ w hr.c0 hr.c2 hr.top hr.le
end Go.Proofs.Ytifoanmoadogoaa
