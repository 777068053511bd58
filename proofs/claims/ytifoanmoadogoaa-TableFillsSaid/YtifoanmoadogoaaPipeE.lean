/- The contract of a pipe's Read. Condition: the pipe's cells are as stated. -/
import Derived.Test.YtifoanmoadogoaaPipeC
import Derived.Test.YtifoanmoadogoaaPipeD
namespace Go.Proofs.Ytifoanmoadogoaa
open Go.RowKit

/-- A row of k bytes at block S, the first of which are l. -/
structure Buf (w : World) (S k : Nat) (l : List UInt8) : Prop where
  lt : S < w.heap.size
  all : ∀ i, i < k → w.frozen? ⟨S, i, none⟩ = false ∧ ∃ v, w.cell? ⟨S, i, none⟩ = some (.int .u8 v)
  have_ : ∀ i (h : i < l.length), w.cell? ⟨S, i, none⟩ = some (.int .u8 l[i].toNat)
  le : l.length ≤ k

theorem Buf.keep {w w' : World} {S k : Nat} {l : List UInt8} (h : Buf w S k l) (hs : w.heap.size ≤ w'.heap.size) (hk : w'.heap[S]? = w.heap[S]?) : Buf w' S k l :=
  ⟨Nat.lt_of_lt_of_le h.lt hs, fun i hi => ⟨(frozen_of_heap (a := ⟨S, i, none⟩) hk).trans (h.all i hi).1, by
    obtain ⟨v, hv⟩ := (h.all i hi).2
    exact ⟨v, (cell_of_heap (a := ⟨S, i, none⟩) hk).trans hv⟩⟩, fun i hi => (cell_of_heap (a := ⟨S, i, none⟩) hk).trans (h.have_ i hi), h.le⟩

theorem Buf.store {w : World} {S k j : Nat} {l : List UInt8} (h : Buf w S k l) (hj : l.length = j) (hl : j < k) (x : UInt8) : Buf (w.setCell ⟨S, j, none⟩ (.int .u8 x.toNat)) S k (l ++ [x]) := by
  subst hj
  obtain ⟨v, hv⟩ := (h.all _ hl).2
  refine ⟨by simpa [World.setCell] using h.lt, fun i hi => ⟨by rw [World.frozen?_setCell]; exact (h.all i hi).1, ?_⟩, fun i hi => ?_, by simp; omega⟩
  · by_cases e : l.length = i
    · subst e; exact ⟨_, cell_set_same hv rfl⟩
    · obtain ⟨u, hu⟩ := (h.all i hi).2
      exact ⟨u, (cell_set_ne (.inr e)).trans hu⟩
  · by_cases e : i < l.length
    · rw [cell_set_ne (by omega), h.have_ i e]; simp [List.getElem_append_left, e]
    · obtain rfl : i = l.length := by simp at hi; omega
      rw [cell_set_same hv rfl]; simp

theorem Buf.made (w : World) (k : Nat) : Buf (w.alloc (.cells (madeCells #[.int .u8 0] k) 5)) w.heap.size k [] := by
  have hB := heap_new w (.cells (madeCells #[.int .u8 0] k) 5)
  refine ⟨by simp, fun i hi => ⟨by unfold World.frozen?; rw [hB]; simp, ((0 : UInt8).toNat : Int), ?_⟩, fun i hi => by simp at hi, by simp⟩
  simp only [World.cell?, hB]
  exact made_byte k i hi

theorem Buf.text {w : World} {S k : Nat} {l : List UInt8} (h : Buf w S k l) (hk : l.length = k) :
    (convert 86 9 (.slice (some ⟨S, 0, none⟩) k k)).run Try.prog w = .ok (.string ⟨l.toArray⟩) w := by
  subst hk
  refine run_convert_bytes_back w 86 9 5 ⟨S, 0, none⟩ l.length l Try.underlying86 Try.underlying5 Try.underlying9 fun j hj => ?_
  have e : (⟨S, 0, none⟩ : Addr).add j = ⟨S, j, none⟩ := by
    unfold Addr.add
    split
    · simp_all
    · simp
  rw [e]
  exact h.have_ j hj

theorem Frame.setNew {P B : Nat} {a w : World} (h : Frame P B a w) (S o : Nat) (hS : a.heap.size ≤ S) (u : Value) : Frame P B a (w.setCell ⟨S, o, none⟩ u) :=
  ⟨h.os, h.tape, h.output, by simpa [World.setCell] using h.size, fun k hk h1 h2 => (Below.heap_setCell _ _ _ _ (by simp only; omega)).trans (h.block k hk h1 h2)⟩

theorem waits_v {P B : Nat} {s : St} (b v : Bool) (hv : Hid (s.waits b = v)) (w : World) (h : PipeAt w P B s) :
    Calls Try.prog 18 #[.pointer (some ⟨P, 0, none⟩), .bool b] w fun e w' => e = .returned (.bool v) ∧ ∃ n, w' = w.drewN n :=
  (waits_any b w h).mono fun e w' ⟨he, hw⟩ => ⟨by rw [he, hv.out], hw⟩

set_option maxHeartbeats 400000 in
theorem read_neg {P : Nat} (n : Int) (hn : n < 0) (w : World) :
    Calls Try.prog 13 #[.pointer (some ⟨P, 0, none⟩), .int .i64 n] w fun e w' => e = .returned (.tuple #[.string ⟨#[]⟩, .int .i64 22]) ∧ w' = w := by
  go_enter Try.func13, Try.ntmps13
  go_wp2
  go_ret2
  exact ⟨rfl, rfl⟩

set_option maxHeartbeats 400000 in
theorem read_waits {P B : Nat} {s : St} (n : Int) (hn : 0 < n) (w : World) (h : PipeAt w P B s) (hw : Hid (s.waits false = true)) :
    Calls Try.prog 13 #[.pointer (some ⟨P, 0, none⟩), .int .i64 n] w fun e w' => e = .returned (.tuple #[.string ⟨#[]⟩, .int .i64 11]) ∧ ∃ n, w' = w.drewN n := by
  have hH := Lib.hid h
  clear h
  go_enter Try.func13, Try.ntmps13
  go_wp2_with (go_at_call 18; refine (waits_v _ _ hw _ hH.out).mono ?_; rintro e w' ⟨rfl, n, rfl⟩)
  go_ret2
  exact ⟨rfl, _, rfl⟩

set_option maxRecDepth 100000 in
set_option maxHeartbeats 600000 in
theorem read_some {P B : Nat} {s : St} (N k : Nat) (hk : Hid (k = min N s.data.length)) (w : World) (h : PipeAt w P B s) (hw : Hid (0 < N → s.waits false = false)) :
    Calls Try.prog 13 #[.pointer (some ⟨P, 0, none⟩), .int .i64 N] w fun e w' => e = .returned (.tuple #[.string ⟨(s.data.take k).toArray⟩, .int .i64 0]) ∧
      PipeAt w' P B { s with data := s.data.drop k } ∧ Frame P B w w' := by
  obtain ⟨f, hr⟩ := h.ring
  have c2 := hr.c2
  have htop := h.ok.2.1
  have hlen := h.ok.2.2
  have ltP := hr.ltP
  have ltB := hr.ltB
  clear hr
  have hH := Lib.hid h
  clear h
  obtain ⟨L, hL⟩ : ∃ L, s.data.length = L := ⟨_, rfl⟩
  have hk1 := hk.out
  rw [hL] at c2 hlen hk1
  have hLH := Lib.hid hL
  clear hL hk
  have hkL : k ≤ L := by omega
  obtain ⟨i0, hi, hz0, hz1, hz2⟩ := info_parts Try.info5
  have hmk := run_make (P := Try.prog) (w := w) 86 5 i0 _ Try.underlying86 hi hz0 .i64 .i64 k k (by omega) (by omega) (by rw [hz2]; omega) (by omega)
  have hmkd := fun n => run_make (P := Try.prog) (w := w.drewN n) 86 5 i0 _ Try.underlying86 hi hz0 .i64 .i64 k k (by omega) (by omega) (by rw [hz2]; omega) (by omega)
  simp only [Int.toNat_natCast, hz1, Nat.mul_one, World.heap_drewN] at hmk hmkd
  clear hi hz0 hz1 hz2
  have hcase : (k = N ∧ N ≤ L ∧ 0 < N) ∨ (k = N ∧ N = 0) ∨ (k = L ∧ L < N) := by omega
  have hkc := Lib.hid hk1
  clear hk1
  have hbuf := Lib.hid (Buf.made w k)
  have hbufd := Lib.hid fun n => Buf.made (w.drewN n) k
  rcases hcase with ⟨h1, h2, h3⟩ | ⟨h1, h2⟩ | ⟨h1, h2⟩
  · subst h1
    have hw' : Hid (s.waits false = false) := hw.out h3
    go_enter Try.func13, Try.ntmps13
    go_wp2_with (go_at_call 18; refine (waits_v _ _ hw' _ hH.out).mono ?_; rintro e w' ⟨rfl, n, rfl⟩)
    have hst := Lib.hid (Buf.made (w.drewN n) k)
    have hfr : Frame P B w ((w.drewN n).alloc (.cells (madeCells #[.int .u8 0] k) 5)) := ((Frame.refl P B w).drewN n).alloc _
    have hpi := Lib.hid (hH.out.keep (w' := (w.drewN n).alloc (.cells (madeCells #[.int .u8 0] k) 5)) ⟨Below.heap_alloc _ _ _ ltP, Below.heap_alloc _ _ _ ltB⟩)
    change Hid (Buf _ w.heap.size _ _) at hst
    generalize (w.drewN n).alloc (.cells (madeCells #[.int .u8 0] k) 5) = w0 at hst hfr hpi ⊢
    go_loopw [31] (fun i wr => ∃ j : Nat, j ≤ k ∧ i = .int .i64 j ∧ PipeAt wr P B { s with data := s.data.drop j } ∧ Buf wr w.heap.size k (s.data.take j) ∧ Frame P B w wr) (fun i _ => k - (intOf i).toNat)
    case atStart => exact ⟨0, Nat.zero_le _, rfl, hpi.out, by simpa using hst.out, hfr⟩
    case round =>
      obtain ⟨j, hj, rfl, hP, hB, hF⟩ := hrel
      have hPH := Lib.hid hP
      have hBH := Lib.hid hB
      clear hP hB hst hpi
      by_cases hjk : j < k
      · have hjs : j < s.data.length := by have := hLH.out; omega
        have hx := Lib.hid (List.drop_eq_getElem_cons hjs)
        go_wp2_with fail
        refine (pop_pipe _ _ _ hPH.out hx.out).mono ?_
        rintro e w1 ⟨rfl, hP1, hF1⟩
        have hB1 := hBH.out.keep hF1.size (hF1.block _ hBH.out.lt (by omega) (by omega))
        have hfz := (hB1.all j hjk).1
        obtain ⟨v, hcell⟩ := (hB1.all j hjk).2
        have hP2 := Lib.hid hP1
        have hB2 := Lib.hid hB1
        clear hP1 hB1
        go_wp2
        go_roundw
        case rel =>
          refine ⟨j + 1, by omega, by go_num, hP2.out.keep ⟨Below.heap_setCell _ _ _ _ (by simp only; omega), Below.heap_setCell _ _ _ _ (by simp only; omega)⟩, ?_, (hF.trans hF1).setNew _ _ (Nat.le_refl _) _⟩
          rw [List.take_succ_eq_append_getElem hjs]
          exact hB2.out.store (by rw [List.length_take]; omega) hjk _
        case measure => simp [intOf]; omega
      · obtain rfl : j = k := by omega
        have hcv := hBH.out.text (by rw [List.length_take]; have := hLH.out; omega)
        go_wp2
        go_ret2
        exact ⟨rfl, hPH.out, hF⟩
  · subst h1
    subst h2
    have hmk0 : (Instr.makeSlice 86 (.int .i64 0) (.int .i64 0)).run Try.prog w = .ok (.slice (some ⟨w.heap.size, 0, none⟩) 0 0) (w.alloc (.cells (madeCells (Value.int .u8 0).cells 0) 5)) := hmk
    clear hmk hmkd
    go_enter Try.func13, Try.ntmps13
    go_wp2
    have hst := Lib.hid (Buf.made w 0)
    have hfr : Frame P B w (w.alloc (.cells (madeCells #[.int .u8 0] 0) 5)) := (Frame.refl P B w).alloc _
    have hpi := Lib.hid (hH.out.keep (w' := w.alloc (.cells (madeCells #[.int .u8 0] 0) 5)) ⟨Below.heap_alloc _ _ _ ltP, Below.heap_alloc _ _ _ ltB⟩)
    generalize w.alloc (.cells (madeCells #[.int .u8 0] 0) 5) = w0 at hst hfr hpi ⊢
    go_loopw [31] (fun i wr => ∃ j : Nat, j ≤ 0 ∧ i = .int .i64 j ∧ PipeAt wr P B { s with data := s.data.drop j } ∧ Buf wr w.heap.size 0 (s.data.take j) ∧ Frame P B w wr) (fun i _ => 0 - (intOf i).toNat)
    case atStart => exact ⟨0, Nat.zero_le _, rfl, hpi.out, by simpa using hst.out, hfr⟩
    case round =>
      obtain ⟨j, hj, rfl, hP, hB, hF⟩ := hrel
      have hPH := Lib.hid hP
      have hBH := Lib.hid hB
      clear hP hB hst hpi
      by_cases hjk : j < 0
      · exact absurd hjk (by omega)
      · obtain rfl : j = 0 := by omega
        have hcv := hBH.out.text (by rw [List.length_take]; have := hLH.out; omega)
        go_wp2
        go_ret2
        exact ⟨rfl, hPH.out, hF⟩
  · subst h1
    have hw' : Hid (s.waits false = false) := hw.out (by omega)
    go_enter Try.func13, Try.ntmps13
    go_wp2_with (go_at_call 18; refine (waits_v _ _ hw' _ hH.out).mono ?_; rintro e w' ⟨rfl, n, rfl⟩)
    have hst := Lib.hid (Buf.made (w.drewN n) k)
    have hfr : Frame P B w ((w.drewN n).alloc (.cells (madeCells #[.int .u8 0] k) 5)) := ((Frame.refl P B w).drewN n).alloc _
    have hpi := Lib.hid (hH.out.keep (w' := (w.drewN n).alloc (.cells (madeCells #[.int .u8 0] k) 5)) ⟨Below.heap_alloc _ _ _ ltP, Below.heap_alloc _ _ _ ltB⟩)
    change Hid (Buf _ w.heap.size _ _) at hst
    generalize (w.drewN n).alloc (.cells (madeCells #[.int .u8 0] k) 5) = w0 at hst hfr hpi ⊢
    go_loopw [31] (fun i wr => ∃ j : Nat, j ≤ k ∧ i = .int .i64 j ∧ PipeAt wr P B { s with data := s.data.drop j } ∧ Buf wr w.heap.size k (s.data.take j) ∧ Frame P B w wr) (fun i _ => k - (intOf i).toNat)
    case atStart => exact ⟨0, Nat.zero_le _, rfl, hpi.out, by simpa using hst.out, hfr⟩
    case round =>
      obtain ⟨j, hj, rfl, hP, hB, hF⟩ := hrel
      have hPH := Lib.hid hP
      have hBH := Lib.hid hB
      clear hP hB hst hpi
      by_cases hjk : j < k
      · have hjs : j < s.data.length := by have := hLH.out; omega
        have hx := Lib.hid (List.drop_eq_getElem_cons hjs)
        go_wp2_with fail
        refine (pop_pipe _ _ _ hPH.out hx.out).mono ?_
        rintro e w1 ⟨rfl, hP1, hF1⟩
        have hB1 := hBH.out.keep hF1.size (hF1.block _ hBH.out.lt (by omega) (by omega))
        have hfz := (hB1.all j hjk).1
        obtain ⟨v, hcell⟩ := (hB1.all j hjk).2
        have hP2 := Lib.hid hP1
        have hB2 := Lib.hid hB1
        clear hP1 hB1
        go_wp2
        go_roundw
        case rel =>
          refine ⟨j + 1, by omega, by go_num, hP2.out.keep ⟨Below.heap_setCell _ _ _ _ (by simp only; omega), Below.heap_setCell _ _ _ _ (by simp only; omega)⟩, ?_, (hF.trans hF1).setNew _ _ (Nat.le_refl _) _⟩
          rw [List.take_succ_eq_append_getElem hjs]
          exact hB2.out.store (by rw [List.length_take]; omega) hjk _
        case measure => simp [intOf]; omega
      · obtain rfl : j = k := by omega
        have hcv := hBH.out.text (by rw [List.length_take]; have := hLH.out; omega)
        go_wp2
        go_ret2
        exact ⟨rfl, hPH.out, hF⟩

theorem read_any {P B : Nat} {s : St} (n : Int) (w : World) (h : PipeAt w P B s) (hb : n ≤ 9223372036854775807) :
    Calls Try.prog 13 #[.pointer (some ⟨P, 0, none⟩), .int .i64 n] w fun e w' =>
      e = .returned (.tuple #[.string ⟨(if s.readErr n = 0 then s.got n else []).toArray⟩, .int .i64 (s.readErr n)]) ∧ PipeAt w' P B (if s.readErr n = 0 then s.read n else s) ∧ Frame P B w w' := by
  by_cases hn : n < 0
  · have e1 : s.readErr n = 22 := by simp [St.readErr, hn]
    refine (read_neg n hn w).mono ?_
    rintro e w' ⟨he, rfl⟩
    rw [e1]
    exact ⟨he, h, Frame.refl _ _ _⟩
  by_cases hw : 0 < n ∧ s.data.length = 0 ∧ 0 < s.t
  · have e1 : s.readErr n = 11 := by simp [St.readErr, hn, hw]
    refine (read_waits n hw.1 w h (show _ = _ by simp [St.waits, hw])).mono ?_
    rintro e w' ⟨he, m, rfl⟩
    rw [e1]
    exact ⟨he, h.keep ⟨rfl, rfl⟩, (Frame.refl _ _ _).drewN _⟩
  · have e1 : s.readErr n = 0 := by simp only [St.readErr, if_neg hn, if_neg hw]
    obtain ⟨N, rfl⟩ := Int.eq_ofNat_of_zero_le (show 0 ≤ n by omega)
    refine (read_some N (min N s.data.length) rfl w h (fun h0 => ?_)).mono ?_
    · have : ¬ (s.data.length = 0 ∧ 0 < s.t) := fun g => hw ⟨by omega, g⟩
      simp only [St.waits]
      by_cases g : s.data.length = 0
      · have : ¬ 0 < s.t := fun g' => this ⟨g, g'⟩
        simp [this]
      · simp [g]
    · rintro e w' ⟨he, hP, hF⟩
      rw [e1, if_pos rfl, if_pos rfl]
      refine ⟨?_, ?_, hF⟩
      · rw [he]; simp [St.got, List.take_eq_take_min]
      · have : s.data.drop (min N s.data.length) = s.data.drop N := by
          rcases Nat.le_total N s.data.length with g | g
          · rw [Nat.min_eq_left g]
          · rw [Nat.min_eq_right g, List.drop_length, List.drop_eq_nil_of_le g]
        rw [this] at hP
        exact hP
end Go.Proofs.Ytifoanmoadogoaa
