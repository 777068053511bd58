/- The reference's table: Mark and Exec. Condition: the table's cells are as stated. -/
import Derived.Test.YtifoanmoadogoaaTabO
import Derived.BigRegion
namespace Go.Proofs.Ytifoanmoadogoaa
open Go.RowKit
attribute [local go_sem] Oper.semAt_some

section
set_option maxHeartbeats 1000000
theorem rmark_out {R : Nat} (fd : Int) (b : Bool) (h : ¬ (0 ≤ fd ∧ fd < 32)) (w : World) : Calls Try.prog 35 #[.pointer (some ⟨R, 0, none⟩), .int .i64 fd, .bool b] w fun e w' => e = .returned (.int .i64 9) ∧ w' = w := by
  go_enter Try.func35, Try.ntmps35
  go_wp2_with (go_at_call 51; refine (rhas_out _ h _).mono ?_; rintro e w' ⟨rfl, rfl⟩)
  go_ret
  exact ⟨rfl, rfl⟩
theorem rmark_none {R : Nat} {f : Nat → Sl} (b : Bool) (i : Nat) (hi : i < 32) (w : World) (h : RTb w R f) (ht : (f i).tk = false) :
    Calls Try.prog 35 #[.pointer (some ⟨R, 0, none⟩), .int .i64 i, .bool b] w fun e w' => e = .returned (.int .i64 9) ∧ w' = w := by
  have hh := rhas_in i hi w h
  rw [ht] at hh
  have hhH := Lib.hid hh
  clear hh ht h
  go_enter Try.func35, Try.ntmps35
  go_wp2_with (go_at_call 51; refine hhH.out.mono ?_; rintro e w' ⟨rfl, rfl⟩)
  go_ret
  exact ⟨rfl, rfl⟩
theorem rmark_in {R : Nat} {f : Nat → Sl} (b : Bool) (i : Nat) (hi : i < 32) (w : World) (h : RTb w R f) (ht : (f i).tk = true) :
    Calls Try.prog 35 #[.pointer (some ⟨R, 0, none⟩), .int .i64 i, .bool b] w fun e w' => e = .returned (.int .i64 0) ∧ RTb w' R (upd f i { f i with mr := b }) ∧ Frame R R w w' := by
  have hh := rhas_in i hi w h
  have hi' : (i : Int) < 32 := by omega
  have hTl := h.lt
  have c0 := h.c0 i hi
  have c1 := h.c1 i hi
  have c2 := h.c2 i hi
  obtain ⟨⟨tk, m0, x⟩, hs⟩ : ∃ s, f i = s := ⟨_, rfl⟩
  have hsH := Lib.hid hs
  rw [hs] at hh c0 c1 c2 ht
  dsimp only at hh c0 c1 c2 ht
  subst ht
  have hhH := Lib.hid hh
  have hne : R ≠ w.heap.size := by omega
  have hz := zero58
  obtain ⟨wq, hwq⟩ : ∃ wq, w.alloc (.cells #[.int .i64 x, .bool true, .bool b] 58) = wq := ⟨_, rfl⟩
  have hm := heap_made w (.cells #[.int .i64 x, .bool true, .bool b] 58)
  rw [hwq] at hm
  have q0 : wq.cell? ⟨w.heap.size, 0, none⟩ = some (.int .i64 x) := by simp only [World.cell?, hm]; rfl
  have q1 : wq.cell? ⟨w.heap.size, 1, none⟩ = some (.bool true) := by simp only [World.cell?, hm]; rfl
  have q2 : wq.cell? ⟨w.heap.size, 2, none⟩ = some (.bool b) := by simp only [World.cell?, hm]; rfl
  have hp0 : RTb wq R f := hwq ▸ h.keep (Below.heap_alloc w (.cells #[.int .i64 x, .bool true, .bool b] 58) R hTl)
  have hF := Lib.hid (hwq ▸ (Frame.refl R R w).alloc (.cells #[.int .i64 x, .bool true, .bool b] 58))
  have d0 := hp0.c0 i hi
  have d1 := hp0.c1 i hi
  have d2 := hp0.c2 i hi
  rw [hs] at d0 d1 d2
  have e0 := hp0.fz (i * 3)
  have e1 := hp0.fz (i * 3 + 1)
  have e2 := hp0.fz (i * 3 + 2)
  have hpH := Lib.hid hp0
  have hwH := Lib.hid hwq
  clear h hp0 hm hwq hh hs
  go_enter Try.func35, Try.ntmps35
  go_wp2_with (go_at_call 51; refine hhH.out.mono ?_; rintro e w' ⟨rfl, rfl⟩)
  rw [hwH.out]
  clear hwH c0 c1 c2
  go_region
  all_goals
    go_wp2
    go_ret
    have hp1 : RTb wq.drew R f := hpH.out.keep rfl
    exact ⟨rfl, by rw [hsH.out]; exact hp1.put i hi ⟨true, b, x⟩, (((hF.out.drew).setP _ _).setP _ _).setP _ _⟩
end

set_option maxRecDepth 100000 in
set_option maxHeartbeats 4000000 in
theorem rexec_any {R : Nat} {f : Nat → Sl} (w : World) (h : RTb w R f) :
    Calls Try.prog 37 #[.pointer (some ⟨R, 0, none⟩)] w fun e w' => ∃ v, e = .returned v ∧ rowI w.heap.size w' v (lsP f (upto f 32)) ∧ RTb w' R (gP f (upto f 32)) ∧ Frame R R w w' := by
  obtain ⟨i0, hi0, hz0, hz1, hz2⟩ := info_parts info3
  obtain ⟨z, hz⟩ : ∃ z, w.heap.size = z := ⟨_, rfl⟩
  have hRz : R < z := by rw [← hz]; exact h.lt
  have h0 : RTb w R (gP f (upto f 0)) := by rw [upto, gP_nil]; exact h
  have h0H := Lib.hid h0
  have hzH := Lib.hid hz
  rw [hz]
  clear h h0 hz
  go_enter Try.func37, Try.ntmps37
  go_wp2_with fail
  go_loopw [3, 4] (fun s3 s4 wr => ∃ (k : Nat) (a : Option Addr) (c n : Nat), k ≤ 32 ∧ s4 = .int .i64 k ∧ s3 = .slice a n c ∧ n ≤ k ∧ Hid (n = (lsP f (upto f k)).length ∧ rowI z wr (.slice a n c) (lsP f (upto f k)) ∧ RTb wr R (gP f (upto f k)) ∧ Frame R R w wr)) (fun _ s4 _ => 32 - (intOf s4).toNat)
  case atStart => exact ⟨0, none, 0, 0, Nat.zero_le _, rfl, rfl, Nat.zero_le _, rfl, World.ownsRow_nil _ _ _ _, h0H.out, Frame.refl _ _ _⟩
  case round =>
    obtain ⟨k, a, c, n, hk, rfl, rfl, hn, hI⟩ := hrel
    clear h0H
    by_cases hk2 : k < 32
    · have hk' : (k : Int) < 32 := by omega
      have hgk : gP f (upto f k) k = f k := gP_at (by omega) rfl k (Nat.le_refl _)
      have c0 := hI.out.2.2.1.c0 k hk2
      have c1 := hI.out.2.2.1.c1 k hk2
      have c2 := hI.out.2.2.1.c2 k hk2
      rw [hgk] at c0 c1 c2
      cases ht : (f k).tk
      · rw [ht] at c1
        have hu := Lib.hid (upto_no ht)
        clear ht hgk
        go_wp2_with fail
        go_roundw
        case rel => exact ⟨k + 1, a, c, n, by omega, by go_num, rfl, by omega, by rw [hu.out]; exact hI⟩
        case measure => simp [intOf]; omega
      · rw [ht] at c1
        have hu := Lib.hid (upto_yes hk2 ht)
        cases hm : (f k).mr
        · rw [hm] at c2
          have hg1 := Lib.hid (gP_no (f := f) (pre := upto f k) (x := (⟨k, hk2⟩, (f k).x)) hm)
          have hl1 := Lib.hid (lsP_no (f := f) (pre := upto f k) (x := (⟨k, hk2⟩, (f k).x)) hm)
          clear ht hgk hm
          go_wp2_with fail
          go_roundw
          case rel => exact ⟨k + 1, a, c, n, by omega, by go_num, rfl, by omega, by rw [hu.out, hg1.out, hl1.out]; exact hI⟩
          case measure => simp [intOf]; omega
        · rw [hm] at c2
          have hg1 := Lib.hid (gP_yes (f := f) (pre := upto f k) (x := (⟨k, hk2⟩, (f k).x)) hm)
          have hl1 := Lib.hid (lsP_yes (f := f) (pre := upto f k) (x := (⟨k, hk2⟩, (f k).x)) hm)
          have hrow := Lib.hid (show wr.ownsRow z 3 1 (.slice a n c) n ((lsP f (upto f k)).map (.int .i64)) from by have h : wr.ownsRow z 3 1 (.slice a n c) (lsP f (upto f k)).length ((lsP f (upto f k)).map (.int .i64)) := hI.out.2.1; rw [← hI.out.1] at h; exact h)
          have hsz : Hid (z ≤ wr.heap.size) := Lib.hid (by have := hI.out.2.2.2.size; rw [hzH.out] at this; exact this)
          have hzz := zero58
          clear ht hgk hm
          go_wp2_with (at_builtin; refine wpList_append_own _ rfl _ _ 50 rfl z 3 i0 (.int .i64 0) 1 8 Try.underlying50 hi0 hz0 hz1 hz2 rfl (by decide) _ n ((lsP f (upto f k)).map (.int .i64)) rfl (hrow.out.alloc _) ⟨wr.heap.size, 0, none⟩ 1 1 [.int .i64 (f k).x] rfl rfl (fun j u hj => by
            cases j with
            | zero =>
              obtain rfl : (.int .i64 (f k).x : Value) = u := by simpa using hj
              rw [Addr.add_lit]
              exact (Blk.new wr 3 #[.int .i64 (f k).x]).cell 0
            | succ j => simp at hj) (by simp [Value.oneCell']) (by unfold maxLen; omega) (by omega) (by rw [World.size_alloc]; have := hsz.out; omega) ?_; intro v' w7 hown' hgrow _; obtain ⟨a1, q1, rfl⟩ := ownsRow_slice hown'; have ht7 : RTb w7 R (gP f (upto f k)) := hI.out.2.2.1.keep ((hgrow.block R (by rw [World.size_alloc]; have := hsz.out; omega) (fun e => by have := (hrow.out.lt R e.symm).1; omega)).trans (Below.heap_alloc wr _ R (by have := hsz.out; omega))); have t0 := ht7.c0 k hk2; have t1 := ht7.c1 k hk2; have t2 := ht7.c2 k hk2; have z0 := ht7.fz (k * 3); have z1 := ht7.fz (k * 3 + 1); have z2 := ht7.fz (k * 3 + 2); have ht7H := Lib.hid ht7; have hownH := Lib.hid hown'; have hgrowH := Lib.hid hgrow; clear hown' hgrow ht7)
          go_roundw
          case rel =>
            have hgr := hgrowH.out
            have hF7 : Frame R R w w7 := ⟨hgr.os.trans hI.out.2.2.2.os, hgr.tape.trans hI.out.2.2.2.tape, hgr.output.trans hI.out.2.2.2.output, by have h1 := hgr.size; rw [World.size_alloc] at h1; have := hI.out.2.2.2.size; omega, fun i hi h1 h2 => by
              have hiz : i < z := by rw [← hzH.out]; exact hi
              have := hsz.out
              exact ((hgr.block i (by rw [World.size_alloc]; omega) (fun e => by have := (hrow.out.lt i e.symm).1; omega)).trans (Below.heap_alloc wr _ i (by omega))).trans (hI.out.2.2.2.block i hi h1 h2)⟩
            refine ⟨k + 1, a1, q1, n + 1, by omega, by go_num, rfl, by omega, ?_⟩
            rw [hu.out, hg1.out, hl1.out]
            have hl2 : (lsP f (upto f k) ++ [(f k).x]).length = n + 1 := by rw [List.length_append, ← hI.out.1]; rfl
            refine ⟨hl2.symm, ?_, ht7H.out.put k hk2 Sl.none, ((hF7.setP _ _).setP _ _).setP _ _⟩
            show World.ownsRow _ z 3 1 _ _ _
            rw [hl2, List.map_append]
            refine row_keep hownH.out (fun g hg => ?_)
            have hge := (hownH.out.lt g hg).1
            exact (Below.heap_setCell _ _ _ g (by show g ≠ R; omega)).trans ((Below.heap_setCell _ _ _ g (by show g ≠ R; omega)).trans (Below.heap_setCell _ _ _ g (by show g ≠ R; omega)))
          case measure => simp [intOf]; omega
    · obtain rfl : k = 32 := by omega
      go_wp2_with fail
      go_ret
      refine ⟨_, rfl, ?_, hI.out.2.2.1, hI.out.2.2.2⟩
      exact hI.out.2.1
end Go.Proofs.Ytifoanmoadogoaa
