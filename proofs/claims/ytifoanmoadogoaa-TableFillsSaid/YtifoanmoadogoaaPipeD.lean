/- The contract of a pipe's Write. Condition: the pipe's cells are as stated. -/
import Derived.Test.YtifoanmoadogoaaPipeB
import Derived.StillTailTactics
namespace Go.Proofs.Ytifoanmoadogoaa
open Go.RowKit

theorem isEmpty_no (x : ByteArray) (h : x.data.toList ≠ []) : x.toList.isEmpty = false := by
  rw [← decide_eq_emptyBytes]
  simp only [decide_eq_false_iff_not]
  rintro rfl
  exact h rfl

theorem ret2 {a b : Int} (c : Value) (h : a = b) : Ending.returned (.tuple #[.int .i64 a, c]) = .returned (.tuple #[.int .i64 b, c]) := by rw [h]

theorem written_none (s : St) (x : List UInt8) (h : s.wrote x = 0) : s.written x = s := by
  cases s; simp [St.written, h]

set_option maxHeartbeats 400000 in
theorem write_broken {P B : Nat} {s : St} (x : ByteArray) (w : World) (h : PipeAt w P B s) (hr : s.r = 0) :
    Calls Try.prog 12 #[.pointer (some ⟨P, 0, none⟩), .string x] w fun e w' => e = .returned (.tuple #[.int .i64 0, .int .i64 32]) ∧ w' = w := by
  have c3 := h.c3
  rw [hr] at c3
  clear hr h
  go_enter Try.func12, Try.ntmps12
  go_wp2
  go_ret2
  exact ⟨rfl, rfl⟩

set_option maxHeartbeats 400000 in
theorem write_empty {P B : Nat} {s : St} (x : ByteArray) (w : World) (h : PipeAt w P B s) (hr : 0 < s.r) (hx : x.data.toList = []) :
    Calls Try.prog 12 #[.pointer (some ⟨P, 0, none⟩), .string x] w fun e w' => e = .returned (.tuple #[.int .i64 0, .int .i64 0]) ∧ w' = w := by
  have c3 := h.c3
  have hr' : ((s.r : Int) == 0) = false := by simp; omega
  obtain ⟨⟨xs⟩⟩ := x
  obtain rfl : xs = [] := hx
  clear hr h
  go_enter Try.func12, Try.ntmps12
  go_wp2
  go_ret2
  exact ⟨rfl, rfl⟩

set_option maxHeartbeats 400000 in
theorem write_full {P B : Nat} {s : St} (x : ByteArray) (w : World) (h : PipeAt w P B s) (hr : 0 < s.r) (hx : x.data.toList ≠ []) (hf : s.data.length = s.size) :
    Calls Try.prog 12 #[.pointer (some ⟨P, 0, none⟩), .string x] w fun e w' => e = .returned (.tuple #[.int .i64 0, .int .i64 11]) ∧ ∃ n, w' = w.drewN n := by
  have c3 := h.c3
  have hr' : ((s.r : Int) == 0) = false := by simp; omega
  have hf' : ((s.size : Int) - s.data.length == 0) = true := by simp; omega
  have hx' := isEmpty_no x hx
  have hH := Lib.hid h
  clear hr h hf hx
  go_enter Try.func12, Try.ntmps12
  go_wp2_with (go_at_call 44; refine (room_pipe _ hH.out).mono ?_; rintro e w' ⟨rfl, n, rfl⟩)
  go_ret2
  exact ⟨rfl, _, rfl⟩

theorem room_m {P B : Nat} {s : St} (m : Nat) (hm : Hid (s.data.length + m = s.size)) (w : World) (h : PipeAt w P B s) :
    Calls Try.prog 44 #[.pointer (some ⟨P, 0, none⟩)] w fun e w' => e = .returned (.int .i64 m) ∧ ∃ n, w' = w.drewN n :=
  (room_pipe w h).mono fun e w' ⟨he, hw⟩ => ⟨by rw [he, show (s.size : Int) - s.data.length = m by have := hm.out; omega], hw⟩

set_option maxRecDepth 100000 in
set_option maxHeartbeats 400000 in
theorem write_some {P B : Nat} {s : St} (x : ByteArray) (m k : Nat) (hm : Hid (s.data.length + m = s.size)) (hk : Hid (k = min x.size m)) (w : World) (h : PipeAt w P B s) (hr : 0 < s.r) (hx : x.data.toList ≠ []) (hf : 0 < m) (hs : x.size ≤ 9223372036854775807) :
    Calls Try.prog 12 #[.pointer (some ⟨P, 0, none⟩), .string x] w fun e w' => e = .returned (.tuple #[.int .i64 k, .int .i64 0]) ∧
      PipeAt w' P B { s with data := s.data ++ x.data.toList.take k } ∧ Frame P B w w' := by
  have c3 := h.c3
  have hr' : ((s.r : Int) == 0) = false := by simp; omega
  have hf' : ((m : Int) == 0) = false := by simp; omega
  have hH := Lib.hid h
  have htop := h.ok.2.1
  have hx' := isEmpty_no x hx
  clear hr h hx
  by_cases hle : x.size ≤ m
  all_goals
   go_enter Try.func12, Try.ntmps12
   go_wp2_with (go_at_call 44; refine (room_m m hm _ (show PipeAt _ P B s from (by first | exact hH.out | exact hH.out.keep ⟨rfl, rfl⟩))).mono ?_; rintro e w' ⟨rfl, n, rfl⟩)
   go_loopw [34] (fun i wr => ∃ j : Nat, j ≤ k ∧ i = .int .i64 j ∧ PipeAt wr P B { s with data := s.data ++ x.data.toList.take j } ∧ Frame P B w wr) (fun i _ => k - (intOf i).toNat)
   case atStart => exact ⟨0, Nat.zero_le _, rfl, by rw [List.take_zero, List.append_nil]; exact hH.out.keep ⟨rfl, rfl⟩, (Frame.refl P B w).drewN _⟩
   case round =>
    obtain ⟨j, hj, rfl, hP, hF⟩ := hrel
    have hkb : k ≤ x.size ∧ k ≤ m := by have := hk.out; omega
    have hPH := Lib.hid (hP.keep (w' := wr.drew) ⟨rfl, rfl⟩)
    clear hP
    by_cases hjk : j < k
    · have hjx : (j : Int) < x.size := by omega
      have hjm : (j : Int) < m := by omega
      have hjxn : j < x.size := by omega
      have hl : Hid ((s.data ++ x.data.toList.take j).length < s.size) := by
        show _ < _
        simp only [List.length_append, List.length_take]; have := hm.out; omega
      go_wp2_with fail
      go_still_tail 6, (by kernel_rfl)
      change wpList _ _ _ _ _ wr.drew
      go_wp2_with (go_at_call 45; refine (push_pipe x[j] _ hPH.out hl.out).mono ?_; rintro e w' ⟨rfl, hP', hF'⟩)
      have hH' := Lib.hid hP'
      clear hP'
      go_wp2
      go_roundw
      case rel =>
        refine ⟨j + 1, by omega, by go_num, ?_, (hF.drew).trans hF'⟩
        have := hH'.out
        rw [List.append_assoc] at this
        rw [List.take_succ_eq_append_getElem (by simpa using hjxn)]
        exact this
      case measure => simp [intOf]; omega
    · have hE : Hid ((x.size ≤ m ∧ (x.size : Int) = k ∨ ¬ x.size ≤ m ∧ (m : Int) = k) ∧ j = k) := by
        have := hk.out
        exact ⟨by omega, by omega⟩
      first
        | (have hge : x.size ≤ j := by have := hE.out; omega)
        | (have hge : m ≤ j := by have := hE.out; omega)
      clear hjk
      go_wp2
      go_ret2
      refine ⟨?_, ?_, hF⟩
      · first
          | exact ret2 _ (show (x.size : Int) = k by have := hE.out; omega)
          | exact ret2 _ (show (m : Int) = k by have := hE.out; omega)
      · rw [← hE.out.2]; exact hPH.out.keep ⟨rfl, rfl⟩

theorem write_any {P B : Nat} {s : St} (x : ByteArray) (w : World) (h : PipeAt w P B s) (hs : x.size ≤ maxLen) :
    Calls Try.prog 12 #[.pointer (some ⟨P, 0, none⟩), .string x] w fun e w' =>
      e = .returned (.tuple #[.int .i64 (s.wrote x.data.toList), .int .i64 (s.writeErr x.data.toList)]) ∧ PipeAt w' P B (s.written x.data.toList) ∧ Frame P B w w' := by
  unfold maxLen at hs
  have hlen : x.data.toList.length = x.size := by simp
  obtain ⟨k0, k1, k2⟩ := h.ok
  by_cases hr : s.r = 0
  · have e1 : s.wrote x.data.toList = 0 := by simp [St.wrote, hr]
    refine (write_broken x w h hr).mono ?_
    rintro e w' ⟨he, rfl⟩
    exact ⟨by rw [he, e1]; simp [St.writeErr, hr], by rw [written_none _ _ e1]; exact h, Frame.refl _ _ _⟩
  by_cases hx : x.data.toList = []
  · have e1 : s.wrote x.data.toList = 0 := by simp [St.wrote, hx]
    refine (write_empty x w h (by omega) hx).mono ?_
    rintro e w' ⟨he, rfl⟩
    exact ⟨by rw [he, e1]; simp [St.writeErr, hr, hx], by rw [written_none _ _ e1]; exact h, Frame.refl _ _ _⟩
  by_cases hf : s.data.length = s.size
  · have e1 : s.wrote x.data.toList = 0 := by simp [St.wrote, hf]
    refine (write_full x w h (by omega) hx hf).mono ?_
    rintro e w' ⟨he, n, rfl⟩
    exact ⟨by rw [he, e1]; simp [St.writeErr, hr, hx, hf], by rw [written_none _ _ e1]; exact h.keep ⟨rfl, rfl⟩, (Frame.refl _ _ _).drewN _⟩
  · have e1 : s.wrote x.data.toList = min x.size (s.size - s.data.length) := by rw [St.wrote, if_neg hr, hlen]
    refine (write_some x (s.size - s.data.length) (s.wrote x.data.toList) (show _ = _ by omega) e1 w h (by omega) hx (by omega) hs).mono ?_
    rintro e w' ⟨he, hP, hF⟩
    exact ⟨by rw [he, St.writeErr, if_neg hr, if_neg hx, if_neg (by omega)], hP, hF⟩
end Go.Proofs.Ytifoanmoadogoaa
