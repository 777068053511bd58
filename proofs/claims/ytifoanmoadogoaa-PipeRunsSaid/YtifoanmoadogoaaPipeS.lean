/- The contracts of the document's pipe (the reference): Open, Close, Write, Read, Waits, New. Condition: its cells are as stated. -/
import Derived.Test.YtifoanmoadogoaaPipeG
import Derived.BigRegion
namespace Go.Proofs.Ytifoanmoadogoaa
open Go.RowKit

/-- The reference's pipe in memory: a block of four cells. -/
structure RefAt (w : World) (Q : Nat) (s : St) : Prop where
  c0 : w.cell? ⟨Q, 0, none⟩ = some (.int .i64 s.size)
  c1 : w.cell? ⟨Q, 1, none⟩ = some (.int .i64 s.r)
  c2 : w.cell? ⟨Q, 2, none⟩ = some (.int .i64 s.t)
  c3 : w.cell? ⟨Q, 3, none⟩ = some (.string ⟨s.data.toArray⟩)
  fz : ∀ o, w.frozen? ⟨Q, o, none⟩ = false

theorem RefAt.keep {w w' : World} {Q : Nat} {s : St} (h : RefAt w Q s) (k : w'.heap[Q]? = w.heap[Q]?) : RefAt w' Q s :=
  ⟨(cell_of_heap (a := ⟨Q, 0, none⟩) k).trans h.c0, (cell_of_heap (a := ⟨Q, 1, none⟩) k).trans h.c1, (cell_of_heap (a := ⟨Q, 2, none⟩) k).trans h.c2, (cell_of_heap (a := ⟨Q, 3, none⟩) k).trans h.c3,
    fun o => (frozen_of_heap (a := ⟨Q, o, none⟩) k).trans (h.fz o)⟩

theorem RefAt.lt {w : World} {Q : Nat} {s : St} (h : RefAt w Q s) : Q < w.heap.size := block_of_cell h.c0

theorem RefAt.set1 {w : World} {Q : Nat} {s : St} (h : RefAt w Q s) (n : Nat) : RefAt (w.setCell ⟨Q, 1, none⟩ (.int .i64 n)) Q { s with r := n } :=
  ⟨(cell_set_ne (by omega)).trans h.c0, cell_set_same h.c1 rfl, (cell_set_ne (by omega)).trans h.c2, (cell_set_ne (by omega)).trans h.c3, fun o => by rw [World.frozen?_setCell]; exact h.fz o⟩
theorem RefAt.set2 {w : World} {Q : Nat} {s : St} (h : RefAt w Q s) (n : Nat) : RefAt (w.setCell ⟨Q, 2, none⟩ (.int .i64 n)) Q { s with t := n } :=
  ⟨(cell_set_ne (by omega)).trans h.c0, (cell_set_ne (by omega)).trans h.c1, cell_set_same h.c2 rfl, (cell_set_ne (by omega)).trans h.c3, fun o => by rw [World.frozen?_setCell]; exact h.fz o⟩
theorem RefAt.set3 {w : World} {Q : Nat} {s : St} (h : RefAt w Q s) (d : List UInt8) (x : ByteArray) (hx : x.data.toList = d) : RefAt (w.setCell ⟨Q, 3, none⟩ (.string x)) Q { s with data := d } := by
  subst hx
  exact ⟨(cell_set_ne (by omega)).trans h.c0, (cell_set_ne (by omega)).trans h.c1, (cell_set_ne (by omega)).trans h.c2, cell_set_same h.c3 rfl, fun o => by rw [World.frozen?_setCell]; exact h.fz o⟩

set_option maxHeartbeats 400000 in
theorem ropen_any {Q : Nat} {s : St} (b : Bool) (w : World) (h : RefAt w Q s) (hr : s.r < 4611686018427387904) (ht : s.t < 4611686018427387904) :
    Calls Try.prog 19 #[.pointer (some ⟨Q, 0, none⟩), .bool b] w fun e w' => e = .returned (.tuple #[]) ∧ RefAt w' Q (s.opened b) ∧ Frame Q Q w w' := by
  have c1 := h.c1
  have c2 := h.c2
  have f1 := h.fz 1
  have f2 := h.fz 2
  cases b
  · go_enter Try.func19, Try.ntmps19
    go_wp2
    go_end0
    exact ⟨rfl, h.set1 (s.r + 1), (Frame.refl Q Q _).setP _ _⟩
  · go_enter Try.func19, Try.ntmps19
    go_wp2
    go_end0
    exact ⟨rfl, h.set2 (s.t + 1), (Frame.refl Q Q _).setP _ _⟩

set_option maxHeartbeats 400000 in
theorem rclose_any {Q : Nat} {s : St} (b : Bool) (w : World) (h : RefAt w Q s) (hr : s.r < 4611686018427387904) (ht : s.t < 4611686018427387904) :
    Calls Try.prog 20 #[.pointer (some ⟨Q, 0, none⟩), .bool b] w fun e w' => e = .returned (.int .i64 (s.closeErr b)) ∧ RefAt w' Q (s.closed b) ∧ Frame Q Q w w' := by
  have c1 := h.c1
  have c2 := h.c2
  have f1 := h.fz 1
  have f2 := h.fz 2
  cases b
  · by_cases e : s.r = 0
    · have e' : ((s.r : Int) == 0) = true := by simp [e]
      have h' : RefAt w Q (s.closed false) := by
        have : s.closed false = s := by cases s; simp_all [St.closed]
        rw [this]; exact h
      have hn : s.closeErr false = 9 := by simp [St.closeErr, St.closes, e]
      rw [hn]; clear hn e
      go_enter Try.func20, Try.ntmps20
      go_wp2
      go_ret
      exact ⟨rfl, h', Frame.refl Q Q _⟩
    · have e' : ((s.r : Int) == 0) = false := by simp [e]
      have hn : s.closeErr false = 0 := by simp [St.closeErr, St.closes]; omega
      have h' := h.set1 (s.r - 1)
      rw [show ((s.r - 1 : Nat) : Int) = (s.r : Int) - 1 by omega] at h'
      rw [hn]; clear hn
      go_enter Try.func20, Try.ntmps20
      go_wp2
      go_ret
      exact ⟨rfl, h', (Frame.refl Q Q _).setP _ _⟩
  · by_cases e : s.t = 0
    · have e' : ((s.t : Int) == 0) = true := by simp [e]
      have h' : RefAt w Q (s.closed true) := by
        have : s.closed true = s := by cases s; simp_all [St.closed]
        rw [this]; exact h
      have hn : s.closeErr true = 9 := by simp [St.closeErr, St.closes, e]
      rw [hn]; clear hn e
      go_enter Try.func20, Try.ntmps20
      go_wp2
      go_ret
      exact ⟨rfl, h', Frame.refl Q Q _⟩
    · have e' : ((s.t : Int) == 0) = false := by simp [e]
      have hn : s.closeErr true = 0 := by simp [St.closeErr, St.closes]; omega
      have h' := h.set2 (s.t - 1)
      rw [show ((s.t - 1 : Nat) : Int) = (s.t : Int) - 1 by omega] at h'
      rw [hn]; clear hn
      go_enter Try.func20, Try.ntmps20
      go_wp2
      go_ret
      exact ⟨rfl, h', (Frame.refl Q Q _).setP _ _⟩

set_option maxHeartbeats 400000 in
theorem rnew_yes (n : Nat) (h0 : 0 < n) (h1 : n ≤ 65536) (w : World) :
    Calls Try.prog 11 #[.int .i64 n] w fun e w' => e = .returned (.tuple #[.pointer (some ⟨w.heap.size, 0, none⟩), .int .i64 0]) ∧ RefAt w' w.heap.size ⟨n, 0, 0, []⟩ ∧ Below w.heap.size w w' := by
  go_enter Try.func11, Try.ntmps11
  go_wp2
  go_ret2
  have hP := heap_new w (.cells #[.int .i64 n, .int .i64 0, .int .i64 0, .string ⟨#[]⟩] 48)
  exact ⟨rfl, ⟨by simp only [World.cell?, hP]; rfl, by simp only [World.cell?, hP]; rfl, by simp only [World.cell?, hP]; rfl, by simp only [World.cell?, hP]; rfl, fun o => by unfold World.frozen?; rw [hP]; simp⟩, (Below.refl _ w).alloc (Nat.le_refl _) _⟩

set_option maxHeartbeats 400000 in
theorem rnew_no (n : Int) (hn : n < 1 ∨ 65536 < n) (w : World) :
    Calls Try.prog 11 #[.int .i64 n] w fun e w' => e = .returned (.tuple #[.pointer none, .int .i64 22]) ∧ w' = w := by
  by_cases h : n < 1
  · go_enter Try.func11, Try.ntmps11
    go_wp2
    go_ret2
    exact ⟨rfl, rfl⟩
  · have h' : 65536 < n := by omega
    clear hn
    go_enter Try.func11, Try.ntmps11
    go_wp2
    go_ret2
    exact ⟨rfl, rfl⟩

theorem isEmpty_yes (x : ByteArray) (h : x.data.toList = []) : x.toList.isEmpty = true := by
  rw [← decide_eq_emptyBytes]
  simp only [decide_eq_true_eq]
  obtain ⟨⟨x⟩⟩ := x
  simp at h
  subst h
  rfl
theorem isEmpty_not (x : ByteArray) (h : x.data.toList ≠ []) : x.toList.isEmpty = false := by
  rw [← decide_eq_emptyBytes]
  simp only [decide_eq_false_iff_not]
  rintro rfl
  exact h rfl

set_option maxHeartbeats 400000 in
theorem rwaits_any {Q : Nat} {s : St} (b : Bool) (w : World) (h : RefAt w Q s) :
    Calls Try.prog 23 #[.pointer (some ⟨Q, 0, none⟩), .bool b] w fun e w' => e = .returned (.bool (s.waits b)) ∧ ∃ n, w' = w.drewN n := by
  have c0 := h.c0
  have c1 := h.c1
  have c2 := h.c2
  have c3 := h.c3
  clear h
  obtain ⟨D, hD⟩ : ∃ D : ByteArray, ⟨s.data.toArray⟩ = D := ⟨_, rfl⟩
  rw [hD] at c3
  have hsz : D.size = s.data.length := by rw [← hD]; rfl
  have hli : D.data.toList = s.data := by rw [← hD]
  clear hD
  cases b
  · by_cases e : 0 < s.t
    · by_cases g : s.data = []
      · have g' := isEmpty_yes D (by rw [hli]; exact g)
        have hn : s.waits false = true := by simp [St.waits, e, g]
        rw [hn]; clear hn g hsz hli
        go_enter Try.func23, Try.ntmps23
        go_wp2
        go_ret
        exact ⟨rfl, 0, rfl⟩
      · have g' := isEmpty_not D (by rw [hli]; exact g)
        have hn : s.waits false = false := by simp [St.waits, g]
        rw [hn]; clear hn g hsz hli
        go_enter Try.func23, Try.ntmps23
        go_wp2
        go_ret
        exact ⟨rfl, 0, rfl⟩
    · have hn : s.waits false = false := by simp [St.waits, e]
      have e' : decide ((0 : Int) < s.t) = false := by simp; omega
      rw [hn]; clear hn hsz hli
      go_enter Try.func23, Try.ntmps23
      go_wp2
      go_ret
      exact ⟨rfl, 0, rfl⟩
  · by_cases e : 0 < s.r
    · have ee : decide ((0 : Int) < s.r) = true := by simp; omega
      by_cases g : s.data.length = s.size
      · have g' : ((D.size : Int) == s.size) = true := by simp; omega
        have hn : s.waits true = true := by simp [St.waits, e, g]
        rw [hn]; clear hn g hli hsz
        go_enter Try.func23, Try.ntmps23
        go_wp2
        go_quiet (fail)
        go_wp2
        go_ret
        exact ⟨rfl, _, rfl⟩
      · have g' : ((D.size : Int) == s.size) = false := by simp; omega
        have hn : s.waits true = false := by simp [St.waits, g]
        rw [hn]; clear hn g hli hsz
        go_enter Try.func23, Try.ntmps23
        go_wp2
        go_quiet (fail)
        go_wp2
        go_ret
        exact ⟨rfl, _, rfl⟩
    · have hn : s.waits true = false := by simp [St.waits, e]
      have e' : decide ((0 : Int) < s.r) = false := by simp; omega
      rw [hn]; clear hn hsz hli
      go_enter Try.func23, Try.ntmps23
      go_wp2
      go_quiet (fail)
      go_wp2
      go_ret
      exact ⟨rfl, _, rfl⟩

theorem ext_to' (L : ByteArray) (k : Nat) : (L.extract 0 k).data.toList = L.data.toList.take k := by
  simp [ByteArray.data_extract]
theorem ext_from' (L : ByteArray) (k : Nat) : (L.extract k L.size).data.toList = L.data.toList.drop k := by
  rw [ByteArray.data_extract, Array.toList_extract]
  simp [List.extract, List.take_of_length_le]

set_option maxHeartbeats 800000 in
theorem rwrite_any {Q : Nat} {s : St} (x : ByteArray) (w : World) (h : RefAt w Q s) (hok : s.ok) (hs : x.size ≤ maxLen) :
    Calls Try.prog 21 #[.pointer (some ⟨Q, 0, none⟩), .string x] w fun e w' =>
      e = .returned (.tuple #[.int .i64 (s.wrote x.data.toList), .int .i64 (s.writeErr x.data.toList)]) ∧ RefAt w' Q (s.written x.data.toList) ∧ Frame Q Q w w' := by
  unfold maxLen at hs
  obtain ⟨k0, k1, k2⟩ := hok
  have hlen : x.data.toList.length = x.size := by simp
  have c0 := h.c0
  have c1 := h.c1
  have c3 := h.c3
  have f3 := h.fz 3
  have hR := Lib.hid h
  clear h
  obtain ⟨D, hD⟩ : ∃ D : ByteArray, ⟨s.data.toArray⟩ = D := ⟨_, rfl⟩
  rw [hD] at c3
  have hsz : D.size = s.data.length := by rw [← hD]; rfl
  have hli : D.data.toList = s.data := by rw [← hD]
  have hszH := Lib.hid hsz
  have hliH := Lib.hid hli
  have hDs : D.size ≤ s.size := by omega
  clear hD hsz
  by_cases hr : s.r = 0
  · have e1 : s.wrote x.data.toList = 0 := by simp [St.wrote, hr]
    have e2 : s.writeErr x.data.toList = 32 := by simp [St.writeErr, hr]
    have e3 : s.written x.data.toList = s := by cases s; simp_all [St.written]
    have hr' : ((s.r : Int) == 0) = true := by simp [hr]
    rw [e1, e2, e3]; clear e1 e2 e3 hr hli hlen
    go_enter Try.func21, Try.ntmps21
    go_wp2
    go_quiet (fail)
    go_wp2
    go_ret2
    exact ⟨rfl, hR.out.keep rfl, (Frame.refl Q Q w).drewN _⟩
  have hr' : ((s.r : Int) == 0) = false := by simp [hr]
  by_cases hx : x.data.toList = []
  · have e1 : s.wrote x.data.toList = 0 := by simp [St.wrote, hx]
    have e2 : s.writeErr x.data.toList = 0 := by simp [St.writeErr, hr, hx]
    have e3 : s.written x.data.toList = s := by cases s; simp_all [St.written]
    have hx' := isEmpty_yes x hx
    rw [e1, e2, e3]; clear e1 e2 e3 hr hli hlen hx
    go_enter Try.func21, Try.ntmps21
    go_wp2
    go_quiet (fail)
    go_wp2
    go_ret2
    exact ⟨rfl, hR.out.keep rfl, (Frame.refl Q Q w).drewN _⟩
  have hx' := isEmpty_not x hx
  by_cases hf : s.size = s.data.length
  · have e1 : s.wrote x.data.toList = 0 := by simp [St.wrote, hf]
    have e2 : s.writeErr x.data.toList = 11 := by simp [St.writeErr, hr, hx, hf]
    have e3 : s.written x.data.toList = s := by cases s; simp_all [St.written]
    have hf' : ((s.size : Int) - D.size == 0) = true := by have := hszH.out; simp; omega
    rw [e1, e2, e3]; clear e1 e2 e3 hr hli hlen hx hf
    go_enter Try.func21, Try.ntmps21
    go_wp2
    go_quiet (fail)
    go_wp2
    go_ret2
    exact ⟨rfl, hR.out.keep rfl, (Frame.refl Q Q w).drewN _⟩
  have hf' : ((s.size : Int) - D.size == 0) = false := by have := hszH.out; simp; omega
  have e2 : s.writeErr x.data.toList = 0 := by rw [St.writeErr, if_neg hr, if_neg hx, if_neg hf]
  rw [e2]
  by_cases hle : (x.size : Int) < (s.size : Int) - D.size
  · have e1 : s.wrote x.data.toList = x.size := by have := hszH.out; rw [St.wrote, if_neg hr, hlen]; omega
    have e4 := Lib.hid e1
    have hsum : D.size + (x.extract 0 x.size).size ≤ 131072 := by rw [ByteArray.size_extract]; omega
    rw [e1]; clear e1 e2 hr hli hlen hx hf
    go_enter Try.func21, Try.ntmps21
    go_wp2
    go_quiet (fail)
    go_wp2
    go_region
    go_wp2
    go_ret2
    refine ⟨rfl, (hR.out.keep (w' := w.drewN (nq + 1)) rfl).set3 _ _ ?_, ((Frame.refl Q Q w).drewN _).setP _ _⟩
    rw [ByteArray.data_append, Array.toList_append, hliH.out, e4.out, List.take_of_length_le (by simp)]
  · have e1 : s.wrote x.data.toList = s.size - s.data.length := by have := hszH.out; rw [St.wrote, if_neg hr, hlen]; omega
    have e4 := Lib.hid e1
    have hle2 : (s.size : Int) - D.size ≤ x.size := by omega
    rw [e1]; clear e1 e2 hr hli hlen hx hf
    go_enter Try.func21, Try.ntmps21
    go_wp2
    go_quiet (fail)
    go_wp2
    go_region
    go_wp2
    go_ret2
    refine ⟨ret2 _ (by have := hszH.out; omega), (hR.out.keep (w' := w.drewN (nq + 1)) rfl).set3 _ _ ?_, ((Frame.refl Q Q w).drewN _).setP _ _⟩
    rw [ByteArray.data_append, Array.toList_append, hliH.out, e4.out, ext_to', hszH.out]

theorem retS {a b : ByteArray} (c : Value) (h : a.data.toList = b.data.toList) : Ending.returned (.tuple #[.string a, c]) = .returned (.tuple #[.string b, c]) := by
  obtain ⟨⟨a⟩⟩ := a
  obtain ⟨⟨b⟩⟩ := b
  simp at h
  rw [h]

theorem rread_none {Q : Nat} {s : St} (n ev : Int) (w : World) (h : RefAt w Q s) (he : s.readErr n = ev) (hev : ev ≠ 0)
    (hc : Calls Try.prog 22 #[.pointer (some ⟨Q, 0, none⟩), .int .i64 n] w fun e w' => e = .returned (.tuple #[.string ⟨#[]⟩, .int .i64 ev]) ∧ w' = w) :
    Calls Try.prog 22 #[.pointer (some ⟨Q, 0, none⟩), .int .i64 n] w fun e w' =>
      e = .returned (.tuple #[.string ⟨(if s.readErr n = 0 then s.got n else []).toArray⟩, .int .i64 (s.readErr n)]) ∧ RefAt w' Q (if s.readErr n = 0 then s.read n else s) ∧ Frame Q Q w w' := by
  refine hc.mono ?_
  rintro e w' ⟨rfl, rfl⟩
  rw [he, if_neg hev, if_neg hev]
  exact ⟨rfl, h, Frame.refl _ _ _⟩

set_option maxHeartbeats 800000 in
theorem rread_any {Q : Nat} {s : St} (n : Int) (w : World) (h : RefAt w Q s) (hok : s.ok) (hb : n ≤ 9223372036854775807) :
    Calls Try.prog 22 #[.pointer (some ⟨Q, 0, none⟩), .int .i64 n] w fun e w' =>
      e = .returned (.tuple #[.string ⟨(if s.readErr n = 0 then s.got n else []).toArray⟩, .int .i64 (s.readErr n)]) ∧ RefAt w' Q (if s.readErr n = 0 then s.read n else s) ∧ Frame Q Q w w' := by
  obtain ⟨k0, k1, k2⟩ := hok
  by_cases hn : n < 0
  · refine rread_none n 22 w h (by simp [St.readErr, hn]) (by decide) ?_
    go_enter Try.func22, Try.ntmps22
    go_wp2
    go_ret2
    exact ⟨rfl, rfl⟩
  by_cases hn0 : n = 0
  · subst hn0
    have e1 : s.readErr 0 = 0 := by simp [St.readErr]
    have e2 : s.read 0 = s := by cases s; simp [St.read]
    rw [e1, if_pos rfl, if_pos rfl, e2]
    have hR := Lib.hid h
    clear h e1 e2
    go_enter Try.func22, Try.ntmps22
    go_wp2
    go_ret2
    exact ⟨by simp [St.got], hR.out, Frame.refl _ _ _⟩
  have c2 := h.c2
  have c3 := h.c3
  have f3 := h.fz 3
  have hR := Lib.hid h
  obtain ⟨D, hD⟩ : ∃ D : ByteArray, ⟨s.data.toArray⟩ = D := ⟨_, rfl⟩
  rw [hD] at c3
  have hsz : D.size = s.data.length := by rw [← hD]; rfl
  have hli : D.data.toList = s.data := by rw [← hD]
  have hszH := Lib.hid hsz
  have hliH := Lib.hid hli
  have hDs : D.size ≤ s.size := by omega
  have hn1 : (n == 0) = false := by simpa using hn0
  have hn2 : 0 < n := by omega
  clear hD
  by_cases hw : s.data = [] ∧ 0 < s.t
  · refine rread_none n 11 w h (by simp [St.readErr, hn, hn2, hw]) (by decide) ?_
    have g' := isEmpty_yes D (by rw [hli]; exact hw.1)
    have ht := hw.2
    clear hw hli hsz h hn0
    go_enter Try.func22, Try.ntmps22
    go_wp2
    go_ret2
    exact ⟨rfl, rfl⟩
  have e1 : s.readErr n = 0 := by
    unfold St.readErr
    rw [if_neg hn, if_neg]
    rintro ⟨_, g1, g2⟩
    exact hw ⟨List.eq_nil_of_length_eq_zero g1, g2⟩
  rw [e1, if_pos rfl, if_pos rfl]
  obtain ⟨N, rfl⟩ := Int.eq_ofNat_of_zero_le (show 0 ≤ n by omega)
  have hgot : s.got (N : Int) = s.data.take N := rfl
  have hread : s.read (N : Int) = { s with data := s.data.drop N } := rfl
  rw [hgot, hread]
  have hG : ∃ b : Bool, D.toList.isEmpty = b ∧ (b = true → decide ((0 : Int) < s.t) = false ∧ ¬ 0 < s.t ∧ D.size = 0) := by
    by_cases g : s.data = []
    · exact ⟨true, isEmpty_yes D (by rw [hli]; exact g), fun _ => by
        have : ¬ 0 < s.t := fun q => hw ⟨g, q⟩
        exact ⟨by simp; omega, this, by rw [hsz, g]; rfl⟩⟩
    · exact ⟨false, isEmpty_not D (by rw [hli]; exact g), fun q => by cases q⟩
  obtain ⟨b, hb1, hb2⟩ := hG
  clear hw hli hsz h hn0 e1 hgot hread
  cases b
  · clear hb2
    by_cases hc : (D.size : Int) < N
    · go_enter Try.func22, Try.ntmps22
      go_wp2
      go_ret2
      refine ⟨retS _ ?_, hR.out.set3 _ _ ?_, (Frame.refl Q Q w).setP _ _⟩
      · have h1 := hliH.out
        have h2 := hszH.out
        first
          | rw [h1, List.take_of_length_le (by omega)]
          | (rw [ext_to', h1]; congr 1; omega)
      · have h1 := hliH.out
        have h2 := hszH.out
        first
          | (rw [ext_from', h1, List.drop_eq_nil_of_le (by omega), List.drop_eq_nil_of_le (by omega)])
          | (rw [List.drop_eq_nil_of_le (by omega)]; simp)
    · go_enter Try.func22, Try.ntmps22
      go_wp2
      go_ret2
      refine ⟨retS _ ?_, hR.out.set3 _ _ ?_, (Frame.refl Q Q w).setP _ _⟩
      · rw [ext_to', hliH.out]
      · rw [ext_from', hliH.out]
  · obtain ⟨t1, t2, t3⟩ := hb2 rfl
    have hc : (D.size : Int) < N := by omega
    clear hb2 t3
    · go_enter Try.func22, Try.ntmps22
      go_wp2
      go_ret2
      refine ⟨retS _ ?_, hR.out.set3 _ _ ?_, (Frame.refl Q Q w).setP _ _⟩
      · have h1 := hliH.out
        have h2 := hszH.out
        first
          | rw [h1, List.take_of_length_le (by omega)]
          | (rw [ext_to', h1]; congr 1; omega)
      · have h1 := hliH.out
        have h2 := hszH.out
        first
          | (rw [ext_from', h1, List.drop_eq_nil_of_le (by omega), List.drop_eq_nil_of_le (by omega)])
          | (rw [List.drop_eq_nil_of_le (by omega)]; simp)
end Go.Proofs.Ytifoanmoadogoaa
