/- A word is read. No condition. -/
import Derived.Test.YtnhbcmhinhncfaaGreatDoorLxD
namespace Go.Proofs.YtnhbcmhinhncfaaGreatDoor
open Go.RowKit Go.PlainAid
attribute [local go_sem] Oper.semAt_some

/-- Where the word ends that begins at a place. -/
def wEnd (s : ByteArray) : Nat → Nat → R3
  | 0, e => ⟨e, 0, 0⟩
  | f + 1, e => if e < s.size then (if endsM (bt s e) then ⟨e, 0, 0⟩ else if (passM (wholeM s 24) s e false).err = 0 then wEnd s f (passM (wholeM s 24) s e false).next else ⟨0, (passM (wholeM s 24) s e false).place, (passM (wholeM s 24) s e false).err⟩) else ⟨e, 0, 0⟩
theorem wEnd_on {s : ByteArray} {f e : Nat} {r : R3} (hi : e < s.size) (hc : endsM (bt s e) = false) (hr : passM (wholeM s 24) s e false = r) (he : r.err = 0) : wEnd s (f + 1) e = wEnd s f r.next := by
  subst hr; rw [wEnd, if_pos hi, hc, if_neg (by decide), if_pos he]
theorem wEnd_bad {s : ByteArray} {f e : Nat} {r : R3} (hi : e < s.size) (hc : endsM (bt s e) = false) (hr : passM (wholeM s 24) s e false = r) (he : r.err ≠ 0) : wEnd s (f + 1) e = ⟨0, r.place, r.err⟩ := by
  subst hr; rw [wEnd, if_pos hi, hc, if_neg (by decide), if_neg he]
theorem wEnd_end {s : ByteArray} {f e : Nat} (hi : ¬ e < s.size) : wEnd s f e = ⟨e, 0, 0⟩ := by
  cases f with
  | zero => rfl
  | succ f => rw [wEnd, if_neg hi]
theorem wEnd_done {s : ByteArray} {f e : Nat} (hi : e < s.size) (hc : endsM (bt s e) = true) : wEnd s f e = ⟨e, 0, 0⟩ := by
  cases f with
  | zero => rfl
  | succ f => rw [wEnd, if_pos hi, hc, if_pos rfl]
/-- Does the byte at a place begin a redirection? -/
def redM (s : ByteArray) (e : Nat) : Bool := decide (e < s.size) && (bt s e == 60 || bt s e == 62)
/-- A here-document is announced. -/
def LS.del (st : LS) : LS :=
  if (lastM st.toks).toList == [60, 60] then ⟨st.place, st.toks, st.dels ++ [(st.toks.length, false)]⟩
  else if (lastM st.toks).toList == [60, 60, 45] then ⟨st.place, st.toks, st.dels ++ [(st.toks.length, true)]⟩ else st
theorem del_toks (st : LS) : st.del.toks = st.toks := by unfold LS.del; split; rfl; split <;> rfl
theorem del_place (st : LS) : st.del.place = st.place := by unfold LS.del; split; rfl; split <;> rfl
/-- What word answers: the place of an error, the error, and what is held then. -/
def wordM (s : ByteArray) (st : LS) : Nat × Nat × LS :=
  if (wEnd s s.size st.place).err ≠ 0 then ((wEnd s s.size st.place).place, (wEnd s s.size st.place).err, st)
  else if 4096 < (wEnd s s.size st.place).next - st.place then (st.place, 51, st)
  else if digsM (s.extract st.place (wEnd s s.size st.place).next) && redM s (wEnd s s.size st.place).next then (0, 0, st.tok s 4 ((wEnd s s.size st.place).next - st.place))
  else (0, 0, st.del.tok s 1 ((wEnd s s.size st.place).next - st.place))
theorem word_err {s : ByteArray} {st : LS} {r : R3} (h : wEnd s s.size st.place = r) (he : r.err ≠ 0) : wordM s st = (r.place, r.err, st) := by
  unfold wordM; rw [h, if_pos he]
theorem word_long {s : ByteArray} {st : LS} {m : Nat} (h : wEnd s s.size st.place = ⟨st.place + m, 0, 0⟩) (hm : 4096 < m) : wordM s st = (st.place, 51, st) := by
  unfold wordM; rw [h, if_neg (by simp), if_pos (by show 4096 < st.place + m - st.place; omega)]
theorem word_num {s : ByteArray} {st : LS} {m : Nat} (h : wEnd s s.size st.place = ⟨st.place + m, 0, 0⟩) (hm : ¬ 4096 < m) (hd : (digsM (s.extract st.place (st.place + m)) && redM s (st.place + m)) = true) : wordM s st = (0, 0, st.tok s 4 m) := by
  unfold wordM; rw [h, if_neg (by simp), if_neg (by show ¬ 4096 < st.place + m - st.place; omega), if_pos hd, show (⟨st.place + m, 0, 0⟩ : R3).next - st.place = m from Nat.add_sub_cancel_left ..]
theorem word_word {s : ByteArray} {st : LS} {m : Nat} (h : wEnd s s.size st.place = ⟨st.place + m, 0, 0⟩) (hm : ¬ 4096 < m) (hd : (digsM (s.extract st.place (st.place + m)) && redM s (st.place + m)) = false) : wordM s st = (0, 0, st.del.tok s 1 m) := by
  unfold wordM; rw [h, if_neg (by simp), if_neg (by show ¬ 4096 < st.place + m - st.place; omega), hd, if_neg (by decide), show (⟨st.place + m, 0, 0⟩ : R3).next - st.place = m from Nat.add_sub_cancel_left ..]

theorem LAt.drewN {w : World} {b n₀ : Nat} {s : ByteArray} {st : LS} (h : LAt w b n₀ s st) (n : Nat) : LAt (w.drewN n) b n₀ s st := ⟨h.ex, h.base, h.size⟩
theorem digits_q (t : ByteArray) (v : Bool) (w : World) (hs : t.size ≤ 100000) (h : Hid (digsM t = v)) : Calls Tryz.prog 70 #[.string t] w fun e w' => e = .returned (.bool v) ∧ ∃ m, w' = w.drewN m :=
  (isDigits_any t w hs).mono (by rintro e w' ⟨rfl, rfl⟩; rw [h.out]; exact ⟨rfl, 0, rfl⟩)

theorem delA {b n₀ gg cap c0 c1 : Nat} {s : ByteArray} {st : LS} {a0 a1 : Option Addr} {v : Bool} {w w1 : World} (hB : Blk w1 b 92 (rdC s st.place a0 st.toks.length c0 a1 st.dels.length c1)) (hd : w1.ownsRow n₀ 101 2 (.slice (some ⟨gg, 0, none⟩) (st.dels.length + 1) cap) (st.dels.length + 1) (dv st.dels ++ [.int .i64 (st.toks.length : Nat), .bool v])) (hr : w1.ownsRow n₀ 58 5 (.slice a0 st.toks.length c0) st.toks.length (tv st.toks)) (hgb : b ≠ gg) (hn : n₀ ≤ b) (hz : n₀ ≤ w1.heap.size) (hb : Below n₀ w w1) :
    LAt (w1.setCell ⟨b, 3, none⟩ (.slice (some ⟨gg, 0, none⟩) (st.dels.length + 1) cap)) b n₀ s ⟨st.place, st.toks, st.dels ++ [(st.toks.length, v)]⟩ ∧ Below n₀ w (w1.setCell ⟨b, 3, none⟩ (.slice (some ⟨gg, 0, none⟩) (st.dels.length + 1) cap)) := by
  have hlen2 : (st.dels ++ [(st.toks.length, v)]).length = st.dels.length + 1 := by simp
  refine ⟨⟨⟨a0, c0, some ⟨gg, 0, none⟩, cap, ?_, ?_, ?_⟩, hn, by simpa using hz⟩, hb.setCell hn _⟩
  · show Blk _ b _ (rdC s _ a0 _ c0 _ (st.dels ++ [(st.toks.length, v)]).length cap)
    rw [hlen2]; exact hB.set_ 3 _
  · exact row_keep hr (fun g (hg : Value.ownBlock (.slice a0 st.toks.length c0) = some g) => Below.heap_setCell _ _ _ _ (fun e => row_off hB (by decide) hr (by rw [hg, e])))
  · show World.ownsRow _ _ _ _ (.slice _ (st.dels ++ [(st.toks.length, v)]).length cap) (st.dels ++ [(st.toks.length, v)]).length _
    rw [hlen2, dv_app]
    exact row_keep hd (fun g hg => by
      obtain rfl : gg = g := by simpa [Value.ownBlock] using hg
      exact Below.heap_setCell _ _ _ _ (Ne.symm hgb))

set_option maxRecDepth 100000 in
set_option maxHeartbeats 12800000 in
theorem word_any {w : World} {b n₀ : Nat} {s : ByteArray} {st : LS} (h : LAt w b n₀ s st) (hs : s.size ≤ 100000) (hi : st.place ≤ s.size) (hlen : st.toks.length < 100000) (hlen2 : st.dels.length < 100000) :
    Calls Tryz.prog 57 #[.pointer (some ⟨b, 0, none⟩)] w fun e w' => e = .returned (.tuple #[.int .i64 (wordM s st).1, .int .i64 (wordM s st).2.1]) ∧ LAt w' b n₀ s (wordM s st).2.2 ∧ Below n₀ w w' := by
  obtain ⟨a0, c0, a1, c1, hB, hr, hd⟩ := h.ex
  obtain ⟨i, hi0⟩ : ∃ i, st.place = i := ⟨_, rfl⟩
  have hLH := Lib.hid h
  have hb := get_bt s
  have x0 : w.cell? ⟨b, 0, none⟩ = some (.string s) := hB.cell 0
  have x1 : w.cell? ⟨b, 1, none⟩ = some (.int .i64 i) := by rw [← hi0]; exact hB.cell 1
  have hBH := Lib.hid hB
  have hrH := Lib.hid hr
  have hdH := Lib.hid hd
  have hiH := Lib.hid hi0
  have hW := whole_any s hs 24 0 (by omega) (by omega)
  have hWH := Lib.hid hW
  have hlenA : Hid (st.toks.length ≤ 100000) := Lib.hid (by omega)
  have hlenB := Lib.hid hlen
  rw [hi0] at hi
  clear h hB hr hd hW hi0
  go_enter Tryz.func57, Tryz.ntmps57
  go_wp2
  go_loop [4] (fun v => ∃ m f : Nat, i + m ≤ s.size ∧ s.size ≤ i + m + f ∧ v = .int .i64 ((i + m : Nat) : Int) ∧ Hid (wEnd s s.size i = wEnd s f (i + m))) (fun v => s.size - (intOf v).toNat)
  case atStart => exact ⟨0, s.size, by omega, by omega, rfl, Lib.hid rfl⟩
  case round =>
    obtain ⟨m, f, hm1, hm2, rfl, hm⟩ := hrel
    by_cases hlt : i + m < s.size
    · cases hE : endsM (bt s (i + m))
      · obtain ⟨f, rfl⟩ : ∃ g, f = g + 1 := ⟨f - 1, by omega⟩
        obtain ⟨⟨n, pl, er⟩, hP⟩ : ∃ r, passM (wholeM s 24) s (i + m) false = r := ⟨_, rfl⟩
        have hgi := pass_good (q := false) hlt (fun _ => whole_good s 24 (i + m) false hlt)
        rw [hP] at hgi
        have hcall := Lib.hid (fun w => pass_any s 0 _ hWH.out (i + m) false w hs hlt)
        rw [hP] at hcall
        have hPH := Lib.hid hP
        clear hP
        by_cases he : er = 0
        · obtain ⟨hn1, hn2⟩ := hgi he
          have hE0 := eq_err he
          have hHe := Lib.hid he
          replace hn1 : i + m < n := hn1
          replace hn2 : n ≤ s.size := hn2
          clear he hgi
          go_wp2_with (first
            | (go_at_call 68; refine (endsWord_any _ _).mono ?_; rintro e w' ⟨rfl, rfl⟩; rw [hE])
            | (go_at_call 69; refine (hcall.out _).mono ?_; rintro e w' ⟨rfl, rfl⟩))
          go_round
          case rel => exact ⟨n - i, f, by omega, by omega, by congr 1; omega, Lib.hid (by rw [hm.out, wEnd_on hlt hE hPH.out hHe.out, show i + (n - i) = n by omega])⟩
          case measure => simp [intOf]; omega
        · have hE0 := ne_err he
          have hHe := Lib.hid he
          have hr := Lib.hid (word_err (s := s) (st := st) (r := ⟨0, pl, er⟩) (by rw [hiH.out, hm.out, wEnd_bad hlt hE hPH.out he]) he)
          clear he hgi
          go_wp2_with (first
            | (go_at_call 68; refine (endsWord_any _ _).mono ?_; rintro e w' ⟨rfl, rfl⟩; rw [hE])
            | (go_at_call 69; refine (hcall.out _).mono ?_; rintro e w' ⟨rfl, rfl⟩))
          go_ret2
          rw [hr.out]
          exact ⟨rfl, hLH.out, Below.refl _ _⟩
      · have hend := Lib.hid (show wEnd s s.size st.place = ⟨st.place + m, 0, 0⟩ by rw [hiH.out, hm.out, wEnd_done hlt hE])
        have hsub : Hid ((i : Int) + (m : Int) - (i : Int) = (m : Int)) := Lib.hid (by omega)
        have hpm : Hid (st.place + m ≤ s.size) := Lib.hid (by rw [hiH.out]; exact hm1)
        by_cases hbig : 4096 < m
        · have hr := Lib.hid (word_long hend.out hbig)
          go_wp2_with (first | (go_at_call 68; refine (endsWord_any _ _).mono ?_; rintro e w' ⟨rfl, rfl⟩; rw [hE]))
          go_ret2
          rw [hr.out, hiH.out]
          exact ⟨rfl, hLH.out, Below.refl _ _⟩
        · have hsz : (s.extract i (i + m)).size ≤ 100000 := by rw [ByteArray.size_extract]; omega
          cases hD0 : digsM (s.extract i (i + m))
          · have hD := Lib.hid hD0
            clear hD0
            have hred : Hid (redM s (st.place + m) = redM s (st.place + m)) := Lib.hid rfl
            have hr := Lib.hid (word_word hend.out hbig (by rw [hiH.out, hD.out, ← hiH.out, hred.out]; rfl))
            obtain ⟨x, hx0⟩ : ∃ x, lastM st.toks = x := ⟨_, rfl⟩
            have hx := Lib.hid hx0
            clear hx0
            cases hq1 : (x.toList == [60, 60])
            · cases hq2 : (x.toList == [60, 60, 45])
              · have hdel : Hid (st.del = st) := Lib.hid (by unfold LS.del; rw [hx.out, hq1, hq2]; rfl)
                rw [hdel.out] at hr
                go_wp2_with (first | (go_at_call 68; refine (endsWord_any _ _).mono ?_; rintro e w' ⟨rfl, rfl⟩; rw [hE]))
                go_quiet ((first | (go_at_call 70; exact Calls.quiet_of (digits_q _ _ _ hsz hD))))
                go_wp2_with (first | (go_at_call 71; refine (last_at (hLH.out.drewN _) hlenA.out).mono ?_; rintro e w' ⟨rfl, rfl⟩; rw [hx.out]) | (go_at_call 55; rw [hsub.out]; refine (tok_at 1 m (hLH.out.drewN _) hs (by first | exact hpm.out | (rw [del_place]; exact hpm.out)) (by first | exact hlenB.out | (rw [del_toks]; exact hlenB.out))).mono ?_; rintro e w' ⟨rfl, hL9, hb9⟩))
                go_ret2
                rw [hr.out]
                exact ⟨rfl, hL9, ⟨hb9.os, hb9.tape, hb9.output, hb9.size, hb9.block⟩⟩
              · have hdel : Hid (st.del = ⟨st.place, st.toks, st.dels ++ [(st.toks.length, true)]⟩) := Lib.hid (by unfold LS.del; rw [hx.out, hq1, hq2]; rfl)
                rw [hdel.out] at hr
                go_wp2_with (first | (go_at_call 68; refine (endsWord_any _ _).mono ?_; rintro e w' ⟨rfl, rfl⟩; rw [hE]))
                go_quiet ((first | (go_at_call 70; exact Calls.quiet_of (digits_q _ _ _ hsz hD))))
                go_wp2_with (first | (go_at_call 71; refine (last_at (hLH.out.drewN _) hlenA.out).mono ?_; rintro e w' ⟨rfl, rfl⟩; rw [hx.out]))
                obtain ⟨W, hWe⟩ : ∃ W, W = w.drewN nq := ⟨_, rfl⟩
                rw [← hWe]
                have hBW : Blk W b 92 (rdC s st.place a0 st.toks.length c0 a1 st.dels.length c1) := by rw [hWe]; exact hBH.out
                have hrW : W.ownsRow n₀ 58 5 (.slice a0 st.toks.length c0) st.toks.length (tv st.toks) := by rw [hWe]; exact hrH.out
                have hdW : W.ownsRow n₀ 101 2 (.slice a1 st.dels.length c1) st.dels.length (dv st.dels) := by rw [hWe]; exact hdH.out
                have hbW : Below n₀ w W := by rw [hWe]; exact ⟨rfl, rfl, rfl, Nat.le_refl _, fun _ _ => rfl⟩
                have hnW : n₀ ≤ W.heap.size := by rw [hWe]; exact hLH.out.size
                have hnb : n₀ ≤ b := hLH.out.base
                clear hWe
                obtain ⟨i0, hi0, hz0, hz1, hz2⟩ := info_parts infoDl
                have hoff := row_off hBW (by decide) hdW
                have hlt9 := hBW.lt
                have x2 : W.drew.cell? ⟨b, 2, none⟩ = some (.slice a0 st.toks.length c0) := hBW.cell 2
                have k3 : W.drew.cell? ⟨b, 3, none⟩ = some (.slice a1 st.dels.length c1) := hBW.cell 3
                have hBW0 := Lib.hid hBW
                have hrW0 := Lib.hid hrW
                have hdW0 := Lib.hid hdW
                have hbW0 := Lib.hid hbW
                clear hBW hrW hdW hbW
                have hbl : b < W.drew.heap.size := hlt9
                have hbl2 : ∀ o, b < (W.drew.alloc o).heap.size := fun o => by rw [World.size_alloc]; omega
                have hW9 : ∀ o, (W.alloc o).drew.heap.size = W.heap.size + 1 := fun o => by show (W.alloc o).heap.size = _; rw [World.size_alloc]
                have z2 : (W.alloc (.cells #[.int .i64 (st.toks.length : Nat), .bool true] 101)).drew.cell? ⟨b, 2, none⟩ = some (.slice a0 st.toks.length c0) := cell_al hbl x2
                have z3 : (W.alloc (.cells #[.int .i64 (st.toks.length : Nat), .bool true] 101)).drew.cell? ⟨b, 3, none⟩ = some (.slice a1 st.dels.length c1) := cell_al hbl k3
                refine wp_region_noPanic ?_
                refine wp_region_held_drew (S := (fun w' => w'.cell? ⟨b, 2, none⟩ = some (.slice a0 st.toks.length c0))) (by kernel_rfl) x2 (fun hHeld => ?_)
                refine wpAnyH_take (i := 0) (v := ?_) rfl (by kernel_rfl) (by kernel_rfl) (by kernel_rfl) (fun _ _ _ h => h) (Or.inl ⟨by rfl, ?_⟩) hHeld ?_
                rotate_left
                · intro w hSw
                  try dsimp only at hSw
                  go_simp
                  try with_reducible rfl
                simp only [Act.put, List.setIfInBounds_toArray]
                refine wpAnyH_take (i := 1) (v := ?_) rfl (by kernel_rfl) (by kernel_rfl) (by kernel_rfl) (fun _ _ _ h => h) (Or.inl ⟨by rfl, ?_⟩) hHeld ?_
                rotate_left
                · intro w hSw
                  try dsimp only at hSw
                  go_simp
                  try with_reducible rfl
                simp only [Act.put]
                refine wpAnyH_take (i := 2) (v := ?_) rfl (by kernel_rfl) (by kernel_rfl) (by kernel_rfl) (fun _ _ _ h => h) (Or.inl ⟨by rfl, ?_⟩) hHeld ?_
                rotate_left
                · intro w hSw
                  try dsimp only at hSw
                  go_simp
                  try with_reducible rfl
                simp only [Act.put]
                refine wpAnyH_take (i := 3) (v := ?_) rfl (by kernel_rfl) (by kernel_rfl) (by kernel_rfl) (fun _ _ _ h => h) (Or.inl ⟨by rfl, ?_⟩) hHeld ?_
                rotate_left
                · intro w hSw
                  try dsimp only at hSw
                  go_simp
                  try with_reducible rfl
                simp only [Act.put]
                refine wpAnyH_take (i := 5) (v := ?_) rfl (by kernel_rfl) (by kernel_rfl) (by kernel_rfl) (fun _ _ _ h => h) (Or.inl ⟨by rfl, ?_⟩) hHeld ?_
                rotate_left
                · intro w hSw
                  try dsimp only at hSw
                  go_simp
                  try with_reducible rfl
                simp only [Act.put]
                refine wpAnyH_take (i := 6) (v := ?_) rfl (by kernel_rfl) (by kernel_rfl) (by kernel_rfl) (fun _ _ _ h => h) (Or.inl ⟨by rfl, ?_⟩) hHeld ?_
                rotate_left
                · intro w hSw
                  try dsimp only at hSw
                  go_simp
                  try with_reducible rfl
                simp only [Act.put]
                refine wpAnyH_take (i := 7) (v := ?_) rfl (by kernel_rfl) (by kernel_rfl) (by kernel_rfl) (fun _ _ _ h => h) (Or.inl ⟨by rfl, ?_⟩) hHeld ?_
                rotate_left
                · intro w hSw
                  try dsimp only at hSw
                  go_simp
                  try with_reducible rfl
                simp only [Act.put]
                refine wpAnyH_take (i := 8) (v := ?_) rfl (by kernel_rfl) (by kernel_rfl) (by kernel_rfl) (fun _ _ _ h => h) (Or.inl ⟨by rfl, ?_⟩) hHeld ?_
                rotate_left
                · intro w hSw
                  try dsimp only at hSw
                  go_simp
                  try with_reducible rfl
                simp only [Act.put]
                refine wpAnyH_take (i := 9) (v := ?_) rfl (by kernel_rfl) (by kernel_rfl) (by kernel_rfl) (fun _ _ _ h => h) (Or.inl ⟨by rfl, ?_⟩) hHeld ?_
                rotate_left
                · intro w hSw
                  try dsimp only at hSw
                  go_simp
                  try with_reducible rfl
                simp only [Act.put]
                refine wpAnyH_take (i := 10) (v := ?_) rfl (by kernel_rfl) (by kernel_rfl) (by kernel_rfl) (fun _ _ _ h => h) (Or.inl ⟨by rfl, ?_⟩) hHeld ?_
                rotate_left
                · intro w hSw
                  try dsimp only at hSw
                  go_simp
                  try with_reducible rfl
                simp only [Act.put]
                refine wpAnyH_take (i := 11) (v := ?_) rfl (by kernel_rfl) (by kernel_rfl) (by kernel_rfl) (fun _ _ _ h => h) (Or.inl ⟨by rfl, ?_⟩) hHeld ?_
                rotate_left
                · intro w hSw
                  try dsimp only at hSw
                  go_simp
                  try with_reducible rfl
                simp only [Act.put]
                refine wpAnyH_take (i := 12) (v := ?_) rfl (by kernel_rfl) (by kernel_rfl) (by kernel_rfl) (fun _ _ _ h => h) (Or.inl ⟨by rfl, ?_⟩) hHeld ?_
                rotate_left
                · intro w hSw
                  try dsimp only at hSw
                  go_simp
                  try with_reducible rfl
                simp only [Act.put]
                refine wpAnyH_ready (rs := [4, 13]) (by kernel_rfl) (by simp) ?_
                refine AllReadyH.cons rfl (fun K hK => ?_) (AllReadyH.cons rfl (fun K hK => ?_) AllReadyH.nil)
                · clear hHeld
                  go_simp
                  refine hK.out _ _ x2 (fun hHeld => ?_)
                  clear hK K
                  try simp only [Act.put, List.setIfInBounds_toArray, List.set_cons_zero, List.set_cons_succ]
                  refine wpAnyH_ready (rs := [13]) (by kernel_rfl) (by simp) ?_
                  refine AllReadyH.cons rfl (fun K hK => ?_) AllReadyH.nil
                  clear hHeld
                  go_simp
                  refine hK.out _ _ z2 (fun hHeld => ?_)
                  clear hK K
                  try simp only [Act.put, List.setIfInBounds_toArray, List.set_cons_zero, List.set_cons_succ]
                  refine wpAnyH_ready (rs := [14]) (by kernel_rfl) (by simp) ?_
                  refine AllReadyH.cons (o := { dst := some 124, op := .call { callee := .builtin .append, args := #[.tmp 114, .tmp 123], argTypes := #[90, 90] }, type := 90, pos := "reader.go:82", after := #[{ on := 4, ground := .data }, { on := 13, ground := .data }], guard := none }) rfl (fun K hK => ?_) AllReadyH.nil
                  clear hHeld
                  refine step_append_lies _ (by rfl) _ _ _ (by rfl) n₀ 101 i0 _ 2 16 Tryz.underlying90 hi0 hz0 hz1 hz2 rfl (by omega) (.slice a1 st.dels.length c1) st.dels.length (dv st.dels) (by rfl) (World.ownsRow.alloc (show World.ownsRow W.drew _ _ _ _ _ _ from hdW0.out) _)
                    ⟨W.heap.size, 0, none⟩ 1 1 [.int .i64 (st.toks.length : Nat), .bool true] (by rfl) (by rfl) (World.news_of_block (cs := #[.int .i64 (st.toks.length : Nat), .bool true]) (t := 101) (fr := (0, 0)) (heap_alloc_new W.drew _)) (by simp [Value.oneCell'])
                    (by omega) (by unfold maxLen; omega) (by omega) (by rw [hW9]; omega) (W.heap.size + 1) (hW9 _) ?_
                  intro gg cap w1 hown1 hgrow hat hlt1
                  have y2 := (hgrow.cell_far _ (hbl2 _) hoff).trans z2
                  have hB9 : Blk w1 b 92 (rdC s st.place a0 st.toks.length c0 a1 st.dels.length c1) := (hgrow.block b (hbl2 _) hoff).trans ((Below.heap_alloc W.drew _ b hbl).trans hBW0.out)
                  have hr9 : w1.ownsRow n₀ 58 5 (.slice a0 st.toks.length c0) st.toks.length (tv st.toks) := row_keep hrW0.out (fun g hg => (hgrow.block g (by rw [hW9]; have := row_lt hrW0.out hg; omega) (row_row (by decide) hrW0.out hdW0.out hg)).trans (Below.heap_alloc W.drew _ g (row_lt hrW0.out hg)))
                  have hz9 : n₀ ≤ w1.heap.size := Nat.le_trans (by rw [hW9]; omega) hgrow.size
                  have hb9' : Below n₀ w w1 := ⟨hgrow.os.trans hbW0.out.os, hgrow.tape.trans hbW0.out.tape, hgrow.output.trans hbW0.out.output, Nat.le_trans hbW0.out.size (Nat.le_trans (by rw [hW9]; omega) hgrow.size), fun k hk => (hgrow.block k (by rw [hW9]; omega) (fun e => by have := (hdW0.out.lt k e.symm).1; omega)).trans ((Below.heap_alloc W.drew _ k (by show k < W.heap.size; omega)).trans (hbW0.out.block k hk))⟩
                  have hgb : b ≠ gg := gg_ne hoff hat (by omega)
                  have u3 : w1.frozen? ⟨b, 3, none⟩ = false := hB9.frozen 3
                  have u4 : w1.cell? ⟨b, 3, none⟩ = some (.slice a1 st.dels.length c1) := hB9.cell 3
                  have v2 : (w1.setCell ⟨b, 3, none⟩ (.slice (some ⟨gg, 0, none⟩) (st.dels.length + 1) cap)).cell? ⟨b, 2, none⟩ = some (.slice a0 st.toks.length c0) := (hB9.set_ 3 _).cell 2
                  have v1 : (w1.setCell ⟨b, 3, none⟩ (.slice (some ⟨gg, 0, none⟩) (st.dels.length + 1) cap)).cell? ⟨b, 1, none⟩ = some (.int .i64 i) := by rw [← hiH.out]; exact (hB9.set_ 3 _).cell 1
                  obtain ⟨hL8, hb8⟩ := delA hB9 hown1 hr9 hgb hnb hz9 hb9'
                  refine hK.out _ _ y2 (fun hHeld => ?_)
                  clear hK K
                  try simp only [Act.put, List.setIfInBounds_toArray, List.set_cons_zero, List.set_cons_succ]
                  refine wpAnyH_take (i := 15) (v := ?_) rfl (by kernel_rfl) (by kernel_rfl) (by kernel_rfl) (fun _ _ _ h => h) (Or.inl ⟨by rfl, ?_⟩) hHeld ?_
                  rotate_left
                  · intro w hSw
                    try dsimp only at hSw
                    go_simp
                    try with_reducible rfl
                  simp only [Act.put, List.setIfInBounds_toArray]
                  refine wpAnyH_take (i := 16) (v := ?_) rfl (by kernel_rfl) (by kernel_rfl) (by kernel_rfl) (fun _ _ _ h => h) (Or.inl ⟨by rfl, ?_⟩) hHeld ?_
                  rotate_left
                  · intro w hSw
                    try dsimp only at hSw
                    go_simp
                    try with_reducible rfl
                  simp only [Act.put]
                  refine wpAnyH_ready (rs := [17]) (by kernel_rfl) (by simp) ?_
                  refine AllReadyH.cons rfl (fun K hK => ?_) AllReadyH.nil
                  clear hHeld
                  go_simp
                  refine hK.out _ _ v2 (fun hHeld => ?_)
                  clear hK K
                  try simp only [Act.put, List.setIfInBounds_toArray, List.set_cons_zero, List.set_cons_succ]
                  refine wpAnyH_done (by kernel_rfl) ?_ _
                  refine NoPanic.normal ?_
                  have hL8H := Lib.hid hL8
                  have hb8H := Lib.hid hb8
                  clear hL8 hb8 hB9 hown1 hr9 hgrow hb9'
                  go_wp2_with (first | (go_at_call 55; rw [hsub.out]; refine (tok_at 1 m hL8H.out hs (by first | exact hpm.out | (rw [del_place]; exact hpm.out)) (by first | exact hlenB.out | (rw [del_toks]; exact hlenB.out))).mono ?_; rintro e w' ⟨rfl, hL9, hb9⟩))
                  go_ret2
                  rw [hr.out]
                  exact ⟨rfl, hL9, hb8H.out.trans hb9⟩
                · clear hHeld
                  go_simp
                  refine hK.out _ _ z2 (fun hHeld => ?_)
                  clear hK K
                  try simp only [Act.put, List.setIfInBounds_toArray, List.set_cons_zero, List.set_cons_succ]
                  refine wpAnyH_ready (rs := [4]) (by kernel_rfl) (by simp) ?_
                  refine AllReadyH.cons rfl (fun K hK => ?_) AllReadyH.nil
                  clear hHeld
                  go_simp
                  refine hK.out _ _ z2 (fun hHeld => ?_)
                  clear hK K
                  try simp only [Act.put, List.setIfInBounds_toArray, List.set_cons_zero, List.set_cons_succ]
                  refine wpAnyH_ready (rs := [14]) (by kernel_rfl) (by simp) ?_
                  refine AllReadyH.cons (o := { dst := some 124, op := .call { callee := .builtin .append, args := #[.tmp 114, .tmp 123], argTypes := #[90, 90] }, type := 90, pos := "reader.go:82", after := #[{ on := 4, ground := .data }, { on := 13, ground := .data }], guard := none }) rfl (fun K hK => ?_) AllReadyH.nil
                  clear hHeld
                  refine step_append_lies _ (by rfl) _ _ _ (by rfl) n₀ 101 i0 _ 2 16 Tryz.underlying90 hi0 hz0 hz1 hz2 rfl (by omega) (.slice a1 st.dels.length c1) st.dels.length (dv st.dels) (by rfl) (World.ownsRow.alloc (show World.ownsRow W.drew _ _ _ _ _ _ from hdW0.out) _)
                    ⟨W.heap.size, 0, none⟩ 1 1 [.int .i64 (st.toks.length : Nat), .bool true] (by rfl) (by rfl) (World.news_of_block (cs := #[.int .i64 (st.toks.length : Nat), .bool true]) (t := 101) (fr := (0, 0)) (heap_alloc_new W.drew _)) (by simp [Value.oneCell'])
                    (by omega) (by unfold maxLen; omega) (by omega) (by rw [hW9]; omega) (W.heap.size + 1) (hW9 _) ?_
                  intro gg cap w1 hown1 hgrow hat hlt1
                  have y2 := (hgrow.cell_far _ (hbl2 _) hoff).trans z2
                  have hB9 : Blk w1 b 92 (rdC s st.place a0 st.toks.length c0 a1 st.dels.length c1) := (hgrow.block b (hbl2 _) hoff).trans ((Below.heap_alloc W.drew _ b hbl).trans hBW0.out)
                  have hr9 : w1.ownsRow n₀ 58 5 (.slice a0 st.toks.length c0) st.toks.length (tv st.toks) := row_keep hrW0.out (fun g hg => (hgrow.block g (by rw [hW9]; have := row_lt hrW0.out hg; omega) (row_row (by decide) hrW0.out hdW0.out hg)).trans (Below.heap_alloc W.drew _ g (row_lt hrW0.out hg)))
                  have hz9 : n₀ ≤ w1.heap.size := Nat.le_trans (by rw [hW9]; omega) hgrow.size
                  have hb9' : Below n₀ w w1 := ⟨hgrow.os.trans hbW0.out.os, hgrow.tape.trans hbW0.out.tape, hgrow.output.trans hbW0.out.output, Nat.le_trans hbW0.out.size (Nat.le_trans (by rw [hW9]; omega) hgrow.size), fun k hk => (hgrow.block k (by rw [hW9]; omega) (fun e => by have := (hdW0.out.lt k e.symm).1; omega)).trans ((Below.heap_alloc W.drew _ k (by show k < W.heap.size; omega)).trans (hbW0.out.block k hk))⟩
                  have hgb : b ≠ gg := gg_ne hoff hat (by omega)
                  have u3 : w1.frozen? ⟨b, 3, none⟩ = false := hB9.frozen 3
                  have u4 : w1.cell? ⟨b, 3, none⟩ = some (.slice a1 st.dels.length c1) := hB9.cell 3
                  have v2 : (w1.setCell ⟨b, 3, none⟩ (.slice (some ⟨gg, 0, none⟩) (st.dels.length + 1) cap)).cell? ⟨b, 2, none⟩ = some (.slice a0 st.toks.length c0) := (hB9.set_ 3 _).cell 2
                  have v1 : (w1.setCell ⟨b, 3, none⟩ (.slice (some ⟨gg, 0, none⟩) (st.dels.length + 1) cap)).cell? ⟨b, 1, none⟩ = some (.int .i64 i) := by rw [← hiH.out]; exact (hB9.set_ 3 _).cell 1
                  obtain ⟨hL8, hb8⟩ := delA hB9 hown1 hr9 hgb hnb hz9 hb9'
                  refine hK.out _ _ y2 (fun hHeld => ?_)
                  clear hK K
                  try simp only [Act.put, List.setIfInBounds_toArray, List.set_cons_zero, List.set_cons_succ]
                  refine wpAnyH_take (i := 15) (v := ?_) rfl (by kernel_rfl) (by kernel_rfl) (by kernel_rfl) (fun _ _ _ h => h) (Or.inl ⟨by rfl, ?_⟩) hHeld ?_
                  rotate_left
                  · intro w hSw
                    try dsimp only at hSw
                    go_simp
                    try with_reducible rfl
                  simp only [Act.put, List.setIfInBounds_toArray]
                  refine wpAnyH_take (i := 16) (v := ?_) rfl (by kernel_rfl) (by kernel_rfl) (by kernel_rfl) (fun _ _ _ h => h) (Or.inl ⟨by rfl, ?_⟩) hHeld ?_
                  rotate_left
                  · intro w hSw
                    try dsimp only at hSw
                    go_simp
                    try with_reducible rfl
                  simp only [Act.put]
                  refine wpAnyH_ready (rs := [17]) (by kernel_rfl) (by simp) ?_
                  refine AllReadyH.cons rfl (fun K hK => ?_) AllReadyH.nil
                  clear hHeld
                  go_simp
                  refine hK.out _ _ v2 (fun hHeld => ?_)
                  clear hK K
                  try simp only [Act.put, List.setIfInBounds_toArray, List.set_cons_zero, List.set_cons_succ]
                  refine wpAnyH_done (by kernel_rfl) ?_ _
                  refine NoPanic.normal ?_
                  have hL8H := Lib.hid hL8
                  have hb8H := Lib.hid hb8
                  clear hL8 hb8 hB9 hown1 hr9 hgrow hb9'
                  go_wp2_with (first | (go_at_call 55; rw [hsub.out]; refine (tok_at 1 m hL8H.out hs (by first | exact hpm.out | (rw [del_place]; exact hpm.out)) (by first | exact hlenB.out | (rw [del_toks]; exact hlenB.out))).mono ?_; rintro e w' ⟨rfl, hL9, hb9⟩))
                  go_ret2
                  rw [hr.out]
                  exact ⟨rfl, hL9, hb8H.out.trans hb9⟩
            · have hq2 : (x.toList == [60, 60, 45]) = false := by rw [eq_of_beq hq1]; rfl
              have hdel : Hid (st.del = ⟨st.place, st.toks, st.dels ++ [(st.toks.length, false)]⟩) := Lib.hid (by unfold LS.del; rw [hx.out, hq1]; rfl)
              rw [hdel.out] at hr
              go_wp2_with (first | (go_at_call 68; refine (endsWord_any _ _).mono ?_; rintro e w' ⟨rfl, rfl⟩; rw [hE]))
              go_quiet ((first | (go_at_call 70; exact Calls.quiet_of (digits_q _ _ _ hsz hD))))
              go_wp2_with (first | (go_at_call 71; refine (last_at (hLH.out.drewN _) hlenA.out).mono ?_; rintro e w' ⟨rfl, rfl⟩; rw [hx.out]))
              obtain ⟨W, hWe⟩ : ∃ W, W = w.drewN nq := ⟨_, rfl⟩
              rw [← hWe]
              have hBW : Blk W b 92 (rdC s st.place a0 st.toks.length c0 a1 st.dels.length c1) := by rw [hWe]; exact hBH.out
              have hrW : W.ownsRow n₀ 58 5 (.slice a0 st.toks.length c0) st.toks.length (tv st.toks) := by rw [hWe]; exact hrH.out
              have hdW : W.ownsRow n₀ 101 2 (.slice a1 st.dels.length c1) st.dels.length (dv st.dels) := by rw [hWe]; exact hdH.out
              have hbW : Below n₀ w W := by rw [hWe]; exact ⟨rfl, rfl, rfl, Nat.le_refl _, fun _ _ => rfl⟩
              have hnW : n₀ ≤ W.heap.size := by rw [hWe]; exact hLH.out.size
              have hnb : n₀ ≤ b := hLH.out.base
              clear hWe
              obtain ⟨i0, hi0, hz0, hz1, hz2⟩ := info_parts infoDl
              have hoff := row_off hBW (by decide) hdW
              have hlt9 := hBW.lt
              have x2 : W.drew.cell? ⟨b, 2, none⟩ = some (.slice a0 st.toks.length c0) := hBW.cell 2
              have k3 : W.drew.cell? ⟨b, 3, none⟩ = some (.slice a1 st.dels.length c1) := hBW.cell 3
              have hBW0 := Lib.hid hBW
              have hrW0 := Lib.hid hrW
              have hdW0 := Lib.hid hdW
              have hbW0 := Lib.hid hbW
              clear hBW hrW hdW hbW
              have hbl : b < W.drew.heap.size := hlt9
              have hbl2 : ∀ o, b < (W.drew.alloc o).heap.size := fun o => by rw [World.size_alloc]; omega
              have hW9 : ∀ o, (W.alloc o).drew.heap.size = W.heap.size + 1 := fun o => by show (W.alloc o).heap.size = _; rw [World.size_alloc]
              have z2 : (W.alloc (.cells #[.int .i64 (st.toks.length : Nat), .bool false] 101)).drew.cell? ⟨b, 2, none⟩ = some (.slice a0 st.toks.length c0) := cell_al hbl x2
              have z3 : (W.alloc (.cells #[.int .i64 (st.toks.length : Nat), .bool false] 101)).drew.cell? ⟨b, 3, none⟩ = some (.slice a1 st.dels.length c1) := cell_al hbl k3
              refine wp_region_noPanic ?_
              refine wp_region_held_drew (S := (fun w' => w'.cell? ⟨b, 2, none⟩ = some (.slice a0 st.toks.length c0))) (by kernel_rfl) x2 (fun hHeld => ?_)
              refine wpAnyH_take (i := 0) (v := ?_) rfl (by kernel_rfl) (by kernel_rfl) (by kernel_rfl) (fun _ _ _ h => h) (Or.inl ⟨by rfl, ?_⟩) hHeld ?_
              rotate_left
              · intro w hSw
                try dsimp only at hSw
                go_simp
                try with_reducible rfl
              simp only [Act.put, List.setIfInBounds_toArray]
              refine wpAnyH_take (i := 1) (v := ?_) rfl (by kernel_rfl) (by kernel_rfl) (by kernel_rfl) (fun _ _ _ h => h) (Or.inl ⟨by rfl, ?_⟩) hHeld ?_
              rotate_left
              · intro w hSw
                try dsimp only at hSw
                go_simp
                try with_reducible rfl
              simp only [Act.put]
              refine wpAnyH_take (i := 2) (v := ?_) rfl (by kernel_rfl) (by kernel_rfl) (by kernel_rfl) (fun _ _ _ h => h) (Or.inl ⟨by rfl, ?_⟩) hHeld ?_
              rotate_left
              · intro w hSw
                try dsimp only at hSw
                go_simp
                try with_reducible rfl
              simp only [Act.put]
              refine wpAnyH_take (i := 3) (v := ?_) rfl (by kernel_rfl) (by kernel_rfl) (by kernel_rfl) (fun _ _ _ h => h) (Or.inl ⟨by rfl, ?_⟩) hHeld ?_
              rotate_left
              · intro w hSw
                try dsimp only at hSw
                go_simp
                try with_reducible rfl
              simp only [Act.put]
              refine wpAnyH_take (i := 5) (v := ?_) rfl (by kernel_rfl) (by kernel_rfl) (by kernel_rfl) (fun _ _ _ h => h) (Or.inl ⟨by rfl, ?_⟩) hHeld ?_
              rotate_left
              · intro w hSw
                try dsimp only at hSw
                go_simp
                try with_reducible rfl
              simp only [Act.put]
              refine wpAnyH_take (i := 6) (v := ?_) rfl (by kernel_rfl) (by kernel_rfl) (by kernel_rfl) (fun _ _ _ h => h) (Or.inl ⟨by rfl, ?_⟩) hHeld ?_
              rotate_left
              · intro w hSw
                try dsimp only at hSw
                go_simp
                try with_reducible rfl
              simp only [Act.put]
              refine wpAnyH_take (i := 7) (v := ?_) rfl (by kernel_rfl) (by kernel_rfl) (by kernel_rfl) (fun _ _ _ h => h) (Or.inl ⟨by rfl, ?_⟩) hHeld ?_
              rotate_left
              · intro w hSw
                try dsimp only at hSw
                go_simp
                try with_reducible rfl
              simp only [Act.put]
              refine wpAnyH_take (i := 8) (v := ?_) rfl (by kernel_rfl) (by kernel_rfl) (by kernel_rfl) (fun _ _ _ h => h) (Or.inl ⟨by rfl, ?_⟩) hHeld ?_
              rotate_left
              · intro w hSw
                try dsimp only at hSw
                go_simp
                try with_reducible rfl
              simp only [Act.put]
              refine wpAnyH_take (i := 9) (v := ?_) rfl (by kernel_rfl) (by kernel_rfl) (by kernel_rfl) (fun _ _ _ h => h) (Or.inl ⟨by rfl, ?_⟩) hHeld ?_
              rotate_left
              · intro w hSw
                try dsimp only at hSw
                go_simp
                try with_reducible rfl
              simp only [Act.put]
              refine wpAnyH_take (i := 10) (v := ?_) rfl (by kernel_rfl) (by kernel_rfl) (by kernel_rfl) (fun _ _ _ h => h) (Or.inl ⟨by rfl, ?_⟩) hHeld ?_
              rotate_left
              · intro w hSw
                try dsimp only at hSw
                go_simp
                try with_reducible rfl
              simp only [Act.put]
              refine wpAnyH_take (i := 11) (v := ?_) rfl (by kernel_rfl) (by kernel_rfl) (by kernel_rfl) (fun _ _ _ h => h) (Or.inl ⟨by rfl, ?_⟩) hHeld ?_
              rotate_left
              · intro w hSw
                try dsimp only at hSw
                go_simp
                try with_reducible rfl
              simp only [Act.put]
              refine wpAnyH_take (i := 12) (v := ?_) rfl (by kernel_rfl) (by kernel_rfl) (by kernel_rfl) (fun _ _ _ h => h) (Or.inl ⟨by rfl, ?_⟩) hHeld ?_
              rotate_left
              · intro w hSw
                try dsimp only at hSw
                go_simp
                try with_reducible rfl
              simp only [Act.put]
              refine wpAnyH_ready (rs := [4, 13]) (by kernel_rfl) (by simp) ?_
              refine AllReadyH.cons rfl (fun K hK => ?_) (AllReadyH.cons rfl (fun K hK => ?_) AllReadyH.nil)
              · clear hHeld
                go_simp
                refine hK.out _ _ x2 (fun hHeld => ?_)
                clear hK K
                try simp only [Act.put, List.setIfInBounds_toArray, List.set_cons_zero, List.set_cons_succ]
                refine wpAnyH_ready (rs := [13]) (by kernel_rfl) (by simp) ?_
                refine AllReadyH.cons rfl (fun K hK => ?_) AllReadyH.nil
                clear hHeld
                go_simp
                refine hK.out _ _ z2 (fun hHeld => ?_)
                clear hK K
                try simp only [Act.put, List.setIfInBounds_toArray, List.set_cons_zero, List.set_cons_succ]
                refine wpAnyH_ready (rs := [14]) (by kernel_rfl) (by simp) ?_
                refine AllReadyH.cons (o := { dst := some 124, op := .call { callee := .builtin .append, args := #[.tmp 114, .tmp 123], argTypes := #[90, 90] }, type := 90, pos := "reader.go:82", after := #[{ on := 4, ground := .data }, { on := 13, ground := .data }], guard := none }) rfl (fun K hK => ?_) AllReadyH.nil
                clear hHeld
                refine step_append_lies _ (by rfl) _ _ _ (by rfl) n₀ 101 i0 _ 2 16 Tryz.underlying90 hi0 hz0 hz1 hz2 rfl (by omega) (.slice a1 st.dels.length c1) st.dels.length (dv st.dels) (by rfl) (World.ownsRow.alloc (show World.ownsRow W.drew _ _ _ _ _ _ from hdW0.out) _)
                  ⟨W.heap.size, 0, none⟩ 1 1 [.int .i64 (st.toks.length : Nat), .bool false] (by rfl) (by rfl) (World.news_of_block (cs := #[.int .i64 (st.toks.length : Nat), .bool false]) (t := 101) (fr := (0, 0)) (heap_alloc_new W.drew _)) (by simp [Value.oneCell'])
                  (by omega) (by unfold maxLen; omega) (by omega) (by rw [hW9]; omega) (W.heap.size + 1) (hW9 _) ?_
                intro gg cap w1 hown1 hgrow hat hlt1
                have y2 := (hgrow.cell_far _ (hbl2 _) hoff).trans z2
                have hB9 : Blk w1 b 92 (rdC s st.place a0 st.toks.length c0 a1 st.dels.length c1) := (hgrow.block b (hbl2 _) hoff).trans ((Below.heap_alloc W.drew _ b hbl).trans hBW0.out)
                have hr9 : w1.ownsRow n₀ 58 5 (.slice a0 st.toks.length c0) st.toks.length (tv st.toks) := row_keep hrW0.out (fun g hg => (hgrow.block g (by rw [hW9]; have := row_lt hrW0.out hg; omega) (row_row (by decide) hrW0.out hdW0.out hg)).trans (Below.heap_alloc W.drew _ g (row_lt hrW0.out hg)))
                have hz9 : n₀ ≤ w1.heap.size := Nat.le_trans (by rw [hW9]; omega) hgrow.size
                have hb9' : Below n₀ w w1 := ⟨hgrow.os.trans hbW0.out.os, hgrow.tape.trans hbW0.out.tape, hgrow.output.trans hbW0.out.output, Nat.le_trans hbW0.out.size (Nat.le_trans (by rw [hW9]; omega) hgrow.size), fun k hk => (hgrow.block k (by rw [hW9]; omega) (fun e => by have := (hdW0.out.lt k e.symm).1; omega)).trans ((Below.heap_alloc W.drew _ k (by show k < W.heap.size; omega)).trans (hbW0.out.block k hk))⟩
                have hgb : b ≠ gg := gg_ne hoff hat (by omega)
                have u3 : w1.frozen? ⟨b, 3, none⟩ = false := hB9.frozen 3
                have u4 : w1.cell? ⟨b, 3, none⟩ = some (.slice a1 st.dels.length c1) := hB9.cell 3
                have v2 : (w1.setCell ⟨b, 3, none⟩ (.slice (some ⟨gg, 0, none⟩) (st.dels.length + 1) cap)).cell? ⟨b, 2, none⟩ = some (.slice a0 st.toks.length c0) := (hB9.set_ 3 _).cell 2
                have v1 : (w1.setCell ⟨b, 3, none⟩ (.slice (some ⟨gg, 0, none⟩) (st.dels.length + 1) cap)).cell? ⟨b, 1, none⟩ = some (.int .i64 i) := by rw [← hiH.out]; exact (hB9.set_ 3 _).cell 1
                obtain ⟨hL8, hb8⟩ := delA hB9 hown1 hr9 hgb hnb hz9 hb9'
                refine hK.out _ _ y2 (fun hHeld => ?_)
                clear hK K
                try simp only [Act.put, List.setIfInBounds_toArray, List.set_cons_zero, List.set_cons_succ]
                refine wpAnyH_take (i := 15) (v := ?_) rfl (by kernel_rfl) (by kernel_rfl) (by kernel_rfl) (fun _ _ _ h => h) (Or.inl ⟨by rfl, ?_⟩) hHeld ?_
                rotate_left
                · intro w hSw
                  try dsimp only at hSw
                  go_simp
                  try with_reducible rfl
                simp only [Act.put, List.setIfInBounds_toArray]
                refine wpAnyH_take (i := 16) (v := ?_) rfl (by kernel_rfl) (by kernel_rfl) (by kernel_rfl) (fun _ _ _ h => h) (Or.inl ⟨by rfl, ?_⟩) hHeld ?_
                rotate_left
                · intro w hSw
                  try dsimp only at hSw
                  go_simp
                  try with_reducible rfl
                simp only [Act.put]
                refine wpAnyH_ready (rs := [17]) (by kernel_rfl) (by simp) ?_
                refine AllReadyH.cons rfl (fun K hK => ?_) AllReadyH.nil
                clear hHeld
                go_simp
                refine hK.out _ _ v2 (fun hHeld => ?_)
                clear hK K
                try simp only [Act.put, List.setIfInBounds_toArray, List.set_cons_zero, List.set_cons_succ]
                refine wpAnyH_done (by kernel_rfl) ?_ _
                refine NoPanic.normal ?_
                have hL8H := Lib.hid hL8
                have hb8H := Lib.hid hb8
                clear hL8 hb8 hB9 hown1 hr9 hgrow hb9'
                go_wp2_with (first | (go_at_call 55; rw [hsub.out]; refine (tok_at 1 m hL8H.out hs (by first | exact hpm.out | (rw [del_place]; exact hpm.out)) (by first | exact hlenB.out | (rw [del_toks]; exact hlenB.out))).mono ?_; rintro e w' ⟨rfl, hL9, hb9⟩))
                go_ret2
                rw [hr.out]
                exact ⟨rfl, hL9, hb8H.out.trans hb9⟩
              · clear hHeld
                go_simp
                refine hK.out _ _ z2 (fun hHeld => ?_)
                clear hK K
                try simp only [Act.put, List.setIfInBounds_toArray, List.set_cons_zero, List.set_cons_succ]
                refine wpAnyH_ready (rs := [4]) (by kernel_rfl) (by simp) ?_
                refine AllReadyH.cons rfl (fun K hK => ?_) AllReadyH.nil
                clear hHeld
                go_simp
                refine hK.out _ _ z2 (fun hHeld => ?_)
                clear hK K
                try simp only [Act.put, List.setIfInBounds_toArray, List.set_cons_zero, List.set_cons_succ]
                refine wpAnyH_ready (rs := [14]) (by kernel_rfl) (by simp) ?_
                refine AllReadyH.cons (o := { dst := some 124, op := .call { callee := .builtin .append, args := #[.tmp 114, .tmp 123], argTypes := #[90, 90] }, type := 90, pos := "reader.go:82", after := #[{ on := 4, ground := .data }, { on := 13, ground := .data }], guard := none }) rfl (fun K hK => ?_) AllReadyH.nil
                clear hHeld
                refine step_append_lies _ (by rfl) _ _ _ (by rfl) n₀ 101 i0 _ 2 16 Tryz.underlying90 hi0 hz0 hz1 hz2 rfl (by omega) (.slice a1 st.dels.length c1) st.dels.length (dv st.dels) (by rfl) (World.ownsRow.alloc (show World.ownsRow W.drew _ _ _ _ _ _ from hdW0.out) _)
                  ⟨W.heap.size, 0, none⟩ 1 1 [.int .i64 (st.toks.length : Nat), .bool false] (by rfl) (by rfl) (World.news_of_block (cs := #[.int .i64 (st.toks.length : Nat), .bool false]) (t := 101) (fr := (0, 0)) (heap_alloc_new W.drew _)) (by simp [Value.oneCell'])
                  (by omega) (by unfold maxLen; omega) (by omega) (by rw [hW9]; omega) (W.heap.size + 1) (hW9 _) ?_
                intro gg cap w1 hown1 hgrow hat hlt1
                have y2 := (hgrow.cell_far _ (hbl2 _) hoff).trans z2
                have hB9 : Blk w1 b 92 (rdC s st.place a0 st.toks.length c0 a1 st.dels.length c1) := (hgrow.block b (hbl2 _) hoff).trans ((Below.heap_alloc W.drew _ b hbl).trans hBW0.out)
                have hr9 : w1.ownsRow n₀ 58 5 (.slice a0 st.toks.length c0) st.toks.length (tv st.toks) := row_keep hrW0.out (fun g hg => (hgrow.block g (by rw [hW9]; have := row_lt hrW0.out hg; omega) (row_row (by decide) hrW0.out hdW0.out hg)).trans (Below.heap_alloc W.drew _ g (row_lt hrW0.out hg)))
                have hz9 : n₀ ≤ w1.heap.size := Nat.le_trans (by rw [hW9]; omega) hgrow.size
                have hb9' : Below n₀ w w1 := ⟨hgrow.os.trans hbW0.out.os, hgrow.tape.trans hbW0.out.tape, hgrow.output.trans hbW0.out.output, Nat.le_trans hbW0.out.size (Nat.le_trans (by rw [hW9]; omega) hgrow.size), fun k hk => (hgrow.block k (by rw [hW9]; omega) (fun e => by have := (hdW0.out.lt k e.symm).1; omega)).trans ((Below.heap_alloc W.drew _ k (by show k < W.heap.size; omega)).trans (hbW0.out.block k hk))⟩
                have hgb : b ≠ gg := gg_ne hoff hat (by omega)
                have u3 : w1.frozen? ⟨b, 3, none⟩ = false := hB9.frozen 3
                have u4 : w1.cell? ⟨b, 3, none⟩ = some (.slice a1 st.dels.length c1) := hB9.cell 3
                have v2 : (w1.setCell ⟨b, 3, none⟩ (.slice (some ⟨gg, 0, none⟩) (st.dels.length + 1) cap)).cell? ⟨b, 2, none⟩ = some (.slice a0 st.toks.length c0) := (hB9.set_ 3 _).cell 2
                have v1 : (w1.setCell ⟨b, 3, none⟩ (.slice (some ⟨gg, 0, none⟩) (st.dels.length + 1) cap)).cell? ⟨b, 1, none⟩ = some (.int .i64 i) := by rw [← hiH.out]; exact (hB9.set_ 3 _).cell 1
                obtain ⟨hL8, hb8⟩ := delA hB9 hown1 hr9 hgb hnb hz9 hb9'
                refine hK.out _ _ y2 (fun hHeld => ?_)
                clear hK K
                try simp only [Act.put, List.setIfInBounds_toArray, List.set_cons_zero, List.set_cons_succ]
                refine wpAnyH_take (i := 15) (v := ?_) rfl (by kernel_rfl) (by kernel_rfl) (by kernel_rfl) (fun _ _ _ h => h) (Or.inl ⟨by rfl, ?_⟩) hHeld ?_
                rotate_left
                · intro w hSw
                  try dsimp only at hSw
                  go_simp
                  try with_reducible rfl
                simp only [Act.put, List.setIfInBounds_toArray]
                refine wpAnyH_take (i := 16) (v := ?_) rfl (by kernel_rfl) (by kernel_rfl) (by kernel_rfl) (fun _ _ _ h => h) (Or.inl ⟨by rfl, ?_⟩) hHeld ?_
                rotate_left
                · intro w hSw
                  try dsimp only at hSw
                  go_simp
                  try with_reducible rfl
                simp only [Act.put]
                refine wpAnyH_ready (rs := [17]) (by kernel_rfl) (by simp) ?_
                refine AllReadyH.cons rfl (fun K hK => ?_) AllReadyH.nil
                clear hHeld
                go_simp
                refine hK.out _ _ v2 (fun hHeld => ?_)
                clear hK K
                try simp only [Act.put, List.setIfInBounds_toArray, List.set_cons_zero, List.set_cons_succ]
                refine wpAnyH_done (by kernel_rfl) ?_ _
                refine NoPanic.normal ?_
                have hL8H := Lib.hid hL8
                have hb8H := Lib.hid hb8
                clear hL8 hb8 hB9 hown1 hr9 hgrow hb9'
                go_wp2_with (first | (go_at_call 55; rw [hsub.out]; refine (tok_at 1 m hL8H.out hs (by first | exact hpm.out | (rw [del_place]; exact hpm.out)) (by first | exact hlenB.out | (rw [del_toks]; exact hlenB.out))).mono ?_; rintro e w' ⟨rfl, hL9, hb9⟩))
                go_ret2
                rw [hr.out]
                exact ⟨rfl, hL9, hb8H.out.trans hb9⟩
          · have hD := Lib.hid hD0
            clear hD0
            cases h60 : (bt s (i + m) == 60)
            · cases h62 : (bt s (i + m) == 62)
              · have hred : Hid (redM s (st.place + m) = false) := Lib.hid (by rw [hiH.out]; unfold redM; rw [decide_eq_true hlt, h60, h62]; rfl)
                have hr := Lib.hid (word_word hend.out hbig (by rw [hiH.out, hD.out, ← hiH.out, hred.out]; rfl))
                obtain ⟨x, hx0⟩ : ∃ x, lastM st.toks = x := ⟨_, rfl⟩
                have hx := Lib.hid hx0
                clear hx0
                cases hq1 : (x.toList == [60, 60])
                · cases hq2 : (x.toList == [60, 60, 45])
                  · have hdel : Hid (st.del = st) := Lib.hid (by unfold LS.del; rw [hx.out, hq1, hq2]; rfl)
                    rw [hdel.out] at hr
                    go_wp2_with (first | (go_at_call 68; refine (endsWord_any _ _).mono ?_; rintro e w' ⟨rfl, rfl⟩; rw [hE]))
                    go_quiet ((first | (go_at_call 70; exact Calls.quiet_of (digits_q _ _ _ hsz hD))))
                    go_wp2_with (first | (go_at_call 71; refine (last_at (hLH.out.drewN _) hlenA.out).mono ?_; rintro e w' ⟨rfl, rfl⟩; rw [hx.out]) | (go_at_call 55; rw [hsub.out]; refine (tok_at 1 m (hLH.out.drewN _) hs (by first | exact hpm.out | (rw [del_place]; exact hpm.out)) (by first | exact hlenB.out | (rw [del_toks]; exact hlenB.out))).mono ?_; rintro e w' ⟨rfl, hL9, hb9⟩))
                    go_ret2
                    rw [hr.out]
                    exact ⟨rfl, hL9, ⟨hb9.os, hb9.tape, hb9.output, hb9.size, hb9.block⟩⟩
                  · have hdel : Hid (st.del = ⟨st.place, st.toks, st.dels ++ [(st.toks.length, true)]⟩) := Lib.hid (by unfold LS.del; rw [hx.out, hq1, hq2]; rfl)
                    rw [hdel.out] at hr
                    go_wp2_with (first | (go_at_call 68; refine (endsWord_any _ _).mono ?_; rintro e w' ⟨rfl, rfl⟩; rw [hE]))
                    go_quiet ((first | (go_at_call 70; exact Calls.quiet_of (digits_q _ _ _ hsz hD))))
                    go_wp2_with (first | (go_at_call 71; refine (last_at (hLH.out.drewN _) hlenA.out).mono ?_; rintro e w' ⟨rfl, rfl⟩; rw [hx.out]))
                    obtain ⟨W, hWe⟩ : ∃ W, W = w.drewN nq := ⟨_, rfl⟩
                    rw [← hWe]
                    have hBW : Blk W b 92 (rdC s st.place a0 st.toks.length c0 a1 st.dels.length c1) := by rw [hWe]; exact hBH.out
                    have hrW : W.ownsRow n₀ 58 5 (.slice a0 st.toks.length c0) st.toks.length (tv st.toks) := by rw [hWe]; exact hrH.out
                    have hdW : W.ownsRow n₀ 101 2 (.slice a1 st.dels.length c1) st.dels.length (dv st.dels) := by rw [hWe]; exact hdH.out
                    have hbW : Below n₀ w W := by rw [hWe]; exact ⟨rfl, rfl, rfl, Nat.le_refl _, fun _ _ => rfl⟩
                    have hnW : n₀ ≤ W.heap.size := by rw [hWe]; exact hLH.out.size
                    have hnb : n₀ ≤ b := hLH.out.base
                    clear hWe
                    obtain ⟨i0, hi0, hz0, hz1, hz2⟩ := info_parts infoDl
                    have hoff := row_off hBW (by decide) hdW
                    have hlt9 := hBW.lt
                    have x2 : W.drew.cell? ⟨b, 2, none⟩ = some (.slice a0 st.toks.length c0) := hBW.cell 2
                    have k3 : W.drew.cell? ⟨b, 3, none⟩ = some (.slice a1 st.dels.length c1) := hBW.cell 3
                    have hBW0 := Lib.hid hBW
                    have hrW0 := Lib.hid hrW
                    have hdW0 := Lib.hid hdW
                    have hbW0 := Lib.hid hbW
                    clear hBW hrW hdW hbW
                    have hbl : b < W.drew.heap.size := hlt9
                    have hbl2 : ∀ o, b < (W.drew.alloc o).heap.size := fun o => by rw [World.size_alloc]; omega
                    have hW9 : ∀ o, (W.alloc o).drew.heap.size = W.heap.size + 1 := fun o => by show (W.alloc o).heap.size = _; rw [World.size_alloc]
                    have z2 : (W.alloc (.cells #[.int .i64 (st.toks.length : Nat), .bool true] 101)).drew.cell? ⟨b, 2, none⟩ = some (.slice a0 st.toks.length c0) := cell_al hbl x2
                    have z3 : (W.alloc (.cells #[.int .i64 (st.toks.length : Nat), .bool true] 101)).drew.cell? ⟨b, 3, none⟩ = some (.slice a1 st.dels.length c1) := cell_al hbl k3
                    refine wp_region_noPanic ?_
                    refine wp_region_held_drew (S := (fun w' => w'.cell? ⟨b, 2, none⟩ = some (.slice a0 st.toks.length c0))) (by kernel_rfl) x2 (fun hHeld => ?_)
                    refine wpAnyH_take (i := 0) (v := ?_) rfl (by kernel_rfl) (by kernel_rfl) (by kernel_rfl) (fun _ _ _ h => h) (Or.inl ⟨by rfl, ?_⟩) hHeld ?_
                    rotate_left
                    · intro w hSw
                      try dsimp only at hSw
                      go_simp
                      try with_reducible rfl
                    simp only [Act.put, List.setIfInBounds_toArray]
                    refine wpAnyH_take (i := 1) (v := ?_) rfl (by kernel_rfl) (by kernel_rfl) (by kernel_rfl) (fun _ _ _ h => h) (Or.inl ⟨by rfl, ?_⟩) hHeld ?_
                    rotate_left
                    · intro w hSw
                      try dsimp only at hSw
                      go_simp
                      try with_reducible rfl
                    simp only [Act.put]
                    refine wpAnyH_take (i := 2) (v := ?_) rfl (by kernel_rfl) (by kernel_rfl) (by kernel_rfl) (fun _ _ _ h => h) (Or.inl ⟨by rfl, ?_⟩) hHeld ?_
                    rotate_left
                    · intro w hSw
                      try dsimp only at hSw
                      go_simp
                      try with_reducible rfl
                    simp only [Act.put]
                    refine wpAnyH_take (i := 3) (v := ?_) rfl (by kernel_rfl) (by kernel_rfl) (by kernel_rfl) (fun _ _ _ h => h) (Or.inl ⟨by rfl, ?_⟩) hHeld ?_
                    rotate_left
                    · intro w hSw
                      try dsimp only at hSw
                      go_simp
                      try with_reducible rfl
                    simp only [Act.put]
                    refine wpAnyH_take (i := 5) (v := ?_) rfl (by kernel_rfl) (by kernel_rfl) (by kernel_rfl) (fun _ _ _ h => h) (Or.inl ⟨by rfl, ?_⟩) hHeld ?_
                    rotate_left
                    · intro w hSw
                      try dsimp only at hSw
                      go_simp
                      try with_reducible rfl
                    simp only [Act.put]
                    refine wpAnyH_take (i := 6) (v := ?_) rfl (by kernel_rfl) (by kernel_rfl) (by kernel_rfl) (fun _ _ _ h => h) (Or.inl ⟨by rfl, ?_⟩) hHeld ?_
                    rotate_left
                    · intro w hSw
                      try dsimp only at hSw
                      go_simp
                      try with_reducible rfl
                    simp only [Act.put]
                    refine wpAnyH_take (i := 7) (v := ?_) rfl (by kernel_rfl) (by kernel_rfl) (by kernel_rfl) (fun _ _ _ h => h) (Or.inl ⟨by rfl, ?_⟩) hHeld ?_
                    rotate_left
                    · intro w hSw
                      try dsimp only at hSw
                      go_simp
                      try with_reducible rfl
                    simp only [Act.put]
                    refine wpAnyH_take (i := 8) (v := ?_) rfl (by kernel_rfl) (by kernel_rfl) (by kernel_rfl) (fun _ _ _ h => h) (Or.inl ⟨by rfl, ?_⟩) hHeld ?_
                    rotate_left
                    · intro w hSw
                      try dsimp only at hSw
                      go_simp
                      try with_reducible rfl
                    simp only [Act.put]
                    refine wpAnyH_take (i := 9) (v := ?_) rfl (by kernel_rfl) (by kernel_rfl) (by kernel_rfl) (fun _ _ _ h => h) (Or.inl ⟨by rfl, ?_⟩) hHeld ?_
                    rotate_left
                    · intro w hSw
                      try dsimp only at hSw
                      go_simp
                      try with_reducible rfl
                    simp only [Act.put]
                    refine wpAnyH_take (i := 10) (v := ?_) rfl (by kernel_rfl) (by kernel_rfl) (by kernel_rfl) (fun _ _ _ h => h) (Or.inl ⟨by rfl, ?_⟩) hHeld ?_
                    rotate_left
                    · intro w hSw
                      try dsimp only at hSw
                      go_simp
                      try with_reducible rfl
                    simp only [Act.put]
                    refine wpAnyH_take (i := 11) (v := ?_) rfl (by kernel_rfl) (by kernel_rfl) (by kernel_rfl) (fun _ _ _ h => h) (Or.inl ⟨by rfl, ?_⟩) hHeld ?_
                    rotate_left
                    · intro w hSw
                      try dsimp only at hSw
                      go_simp
                      try with_reducible rfl
                    simp only [Act.put]
                    refine wpAnyH_take (i := 12) (v := ?_) rfl (by kernel_rfl) (by kernel_rfl) (by kernel_rfl) (fun _ _ _ h => h) (Or.inl ⟨by rfl, ?_⟩) hHeld ?_
                    rotate_left
                    · intro w hSw
                      try dsimp only at hSw
                      go_simp
                      try with_reducible rfl
                    simp only [Act.put]
                    refine wpAnyH_ready (rs := [4, 13]) (by kernel_rfl) (by simp) ?_
                    refine AllReadyH.cons rfl (fun K hK => ?_) (AllReadyH.cons rfl (fun K hK => ?_) AllReadyH.nil)
                    · clear hHeld
                      go_simp
                      refine hK.out _ _ x2 (fun hHeld => ?_)
                      clear hK K
                      try simp only [Act.put, List.setIfInBounds_toArray, List.set_cons_zero, List.set_cons_succ]
                      refine wpAnyH_ready (rs := [13]) (by kernel_rfl) (by simp) ?_
                      refine AllReadyH.cons rfl (fun K hK => ?_) AllReadyH.nil
                      clear hHeld
                      go_simp
                      refine hK.out _ _ z2 (fun hHeld => ?_)
                      clear hK K
                      try simp only [Act.put, List.setIfInBounds_toArray, List.set_cons_zero, List.set_cons_succ]
                      refine wpAnyH_ready (rs := [14]) (by kernel_rfl) (by simp) ?_
                      refine AllReadyH.cons (o := { dst := some 124, op := .call { callee := .builtin .append, args := #[.tmp 114, .tmp 123], argTypes := #[90, 90] }, type := 90, pos := "reader.go:82", after := #[{ on := 4, ground := .data }, { on := 13, ground := .data }], guard := none }) rfl (fun K hK => ?_) AllReadyH.nil
                      clear hHeld
                      refine step_append_lies _ (by rfl) _ _ _ (by rfl) n₀ 101 i0 _ 2 16 Tryz.underlying90 hi0 hz0 hz1 hz2 rfl (by omega) (.slice a1 st.dels.length c1) st.dels.length (dv st.dels) (by rfl) (World.ownsRow.alloc (show World.ownsRow W.drew _ _ _ _ _ _ from hdW0.out) _)
                        ⟨W.heap.size, 0, none⟩ 1 1 [.int .i64 (st.toks.length : Nat), .bool true] (by rfl) (by rfl) (World.news_of_block (cs := #[.int .i64 (st.toks.length : Nat), .bool true]) (t := 101) (fr := (0, 0)) (heap_alloc_new W.drew _)) (by simp [Value.oneCell'])
                        (by omega) (by unfold maxLen; omega) (by omega) (by rw [hW9]; omega) (W.heap.size + 1) (hW9 _) ?_
                      intro gg cap w1 hown1 hgrow hat hlt1
                      have y2 := (hgrow.cell_far _ (hbl2 _) hoff).trans z2
                      have hB9 : Blk w1 b 92 (rdC s st.place a0 st.toks.length c0 a1 st.dels.length c1) := (hgrow.block b (hbl2 _) hoff).trans ((Below.heap_alloc W.drew _ b hbl).trans hBW0.out)
                      have hr9 : w1.ownsRow n₀ 58 5 (.slice a0 st.toks.length c0) st.toks.length (tv st.toks) := row_keep hrW0.out (fun g hg => (hgrow.block g (by rw [hW9]; have := row_lt hrW0.out hg; omega) (row_row (by decide) hrW0.out hdW0.out hg)).trans (Below.heap_alloc W.drew _ g (row_lt hrW0.out hg)))
                      have hz9 : n₀ ≤ w1.heap.size := Nat.le_trans (by rw [hW9]; omega) hgrow.size
                      have hb9' : Below n₀ w w1 := ⟨hgrow.os.trans hbW0.out.os, hgrow.tape.trans hbW0.out.tape, hgrow.output.trans hbW0.out.output, Nat.le_trans hbW0.out.size (Nat.le_trans (by rw [hW9]; omega) hgrow.size), fun k hk => (hgrow.block k (by rw [hW9]; omega) (fun e => by have := (hdW0.out.lt k e.symm).1; omega)).trans ((Below.heap_alloc W.drew _ k (by show k < W.heap.size; omega)).trans (hbW0.out.block k hk))⟩
                      have hgb : b ≠ gg := gg_ne hoff hat (by omega)
                      have u3 : w1.frozen? ⟨b, 3, none⟩ = false := hB9.frozen 3
                      have u4 : w1.cell? ⟨b, 3, none⟩ = some (.slice a1 st.dels.length c1) := hB9.cell 3
                      have v2 : (w1.setCell ⟨b, 3, none⟩ (.slice (some ⟨gg, 0, none⟩) (st.dels.length + 1) cap)).cell? ⟨b, 2, none⟩ = some (.slice a0 st.toks.length c0) := (hB9.set_ 3 _).cell 2
                      have v1 : (w1.setCell ⟨b, 3, none⟩ (.slice (some ⟨gg, 0, none⟩) (st.dels.length + 1) cap)).cell? ⟨b, 1, none⟩ = some (.int .i64 i) := by rw [← hiH.out]; exact (hB9.set_ 3 _).cell 1
                      obtain ⟨hL8, hb8⟩ := delA hB9 hown1 hr9 hgb hnb hz9 hb9'
                      refine hK.out _ _ y2 (fun hHeld => ?_)
                      clear hK K
                      try simp only [Act.put, List.setIfInBounds_toArray, List.set_cons_zero, List.set_cons_succ]
                      refine wpAnyH_take (i := 15) (v := ?_) rfl (by kernel_rfl) (by kernel_rfl) (by kernel_rfl) (fun _ _ _ h => h) (Or.inl ⟨by rfl, ?_⟩) hHeld ?_
                      rotate_left
                      · intro w hSw
                        try dsimp only at hSw
                        go_simp
                        try with_reducible rfl
                      simp only [Act.put, List.setIfInBounds_toArray]
                      refine wpAnyH_take (i := 16) (v := ?_) rfl (by kernel_rfl) (by kernel_rfl) (by kernel_rfl) (fun _ _ _ h => h) (Or.inl ⟨by rfl, ?_⟩) hHeld ?_
                      rotate_left
                      · intro w hSw
                        try dsimp only at hSw
                        go_simp
                        try with_reducible rfl
                      simp only [Act.put]
                      refine wpAnyH_ready (rs := [17]) (by kernel_rfl) (by simp) ?_
                      refine AllReadyH.cons rfl (fun K hK => ?_) AllReadyH.nil
                      clear hHeld
                      go_simp
                      refine hK.out _ _ v2 (fun hHeld => ?_)
                      clear hK K
                      try simp only [Act.put, List.setIfInBounds_toArray, List.set_cons_zero, List.set_cons_succ]
                      refine wpAnyH_done (by kernel_rfl) ?_ _
                      refine NoPanic.normal ?_
                      have hL8H := Lib.hid hL8
                      have hb8H := Lib.hid hb8
                      clear hL8 hb8 hB9 hown1 hr9 hgrow hb9'
                      go_wp2_with (first | (go_at_call 55; rw [hsub.out]; refine (tok_at 1 m hL8H.out hs (by first | exact hpm.out | (rw [del_place]; exact hpm.out)) (by first | exact hlenB.out | (rw [del_toks]; exact hlenB.out))).mono ?_; rintro e w' ⟨rfl, hL9, hb9⟩))
                      go_ret2
                      rw [hr.out]
                      exact ⟨rfl, hL9, hb8H.out.trans hb9⟩
                    · clear hHeld
                      go_simp
                      refine hK.out _ _ z2 (fun hHeld => ?_)
                      clear hK K
                      try simp only [Act.put, List.setIfInBounds_toArray, List.set_cons_zero, List.set_cons_succ]
                      refine wpAnyH_ready (rs := [4]) (by kernel_rfl) (by simp) ?_
                      refine AllReadyH.cons rfl (fun K hK => ?_) AllReadyH.nil
                      clear hHeld
                      go_simp
                      refine hK.out _ _ z2 (fun hHeld => ?_)
                      clear hK K
                      try simp only [Act.put, List.setIfInBounds_toArray, List.set_cons_zero, List.set_cons_succ]
                      refine wpAnyH_ready (rs := [14]) (by kernel_rfl) (by simp) ?_
                      refine AllReadyH.cons (o := { dst := some 124, op := .call { callee := .builtin .append, args := #[.tmp 114, .tmp 123], argTypes := #[90, 90] }, type := 90, pos := "reader.go:82", after := #[{ on := 4, ground := .data }, { on := 13, ground := .data }], guard := none }) rfl (fun K hK => ?_) AllReadyH.nil
                      clear hHeld
                      refine step_append_lies _ (by rfl) _ _ _ (by rfl) n₀ 101 i0 _ 2 16 Tryz.underlying90 hi0 hz0 hz1 hz2 rfl (by omega) (.slice a1 st.dels.length c1) st.dels.length (dv st.dels) (by rfl) (World.ownsRow.alloc (show World.ownsRow W.drew _ _ _ _ _ _ from hdW0.out) _)
                        ⟨W.heap.size, 0, none⟩ 1 1 [.int .i64 (st.toks.length : Nat), .bool true] (by rfl) (by rfl) (World.news_of_block (cs := #[.int .i64 (st.toks.length : Nat), .bool true]) (t := 101) (fr := (0, 0)) (heap_alloc_new W.drew _)) (by simp [Value.oneCell'])
                        (by omega) (by unfold maxLen; omega) (by omega) (by rw [hW9]; omega) (W.heap.size + 1) (hW9 _) ?_
                      intro gg cap w1 hown1 hgrow hat hlt1
                      have y2 := (hgrow.cell_far _ (hbl2 _) hoff).trans z2
                      have hB9 : Blk w1 b 92 (rdC s st.place a0 st.toks.length c0 a1 st.dels.length c1) := (hgrow.block b (hbl2 _) hoff).trans ((Below.heap_alloc W.drew _ b hbl).trans hBW0.out)
                      have hr9 : w1.ownsRow n₀ 58 5 (.slice a0 st.toks.length c0) st.toks.length (tv st.toks) := row_keep hrW0.out (fun g hg => (hgrow.block g (by rw [hW9]; have := row_lt hrW0.out hg; omega) (row_row (by decide) hrW0.out hdW0.out hg)).trans (Below.heap_alloc W.drew _ g (row_lt hrW0.out hg)))
                      have hz9 : n₀ ≤ w1.heap.size := Nat.le_trans (by rw [hW9]; omega) hgrow.size
                      have hb9' : Below n₀ w w1 := ⟨hgrow.os.trans hbW0.out.os, hgrow.tape.trans hbW0.out.tape, hgrow.output.trans hbW0.out.output, Nat.le_trans hbW0.out.size (Nat.le_trans (by rw [hW9]; omega) hgrow.size), fun k hk => (hgrow.block k (by rw [hW9]; omega) (fun e => by have := (hdW0.out.lt k e.symm).1; omega)).trans ((Below.heap_alloc W.drew _ k (by show k < W.heap.size; omega)).trans (hbW0.out.block k hk))⟩
                      have hgb : b ≠ gg := gg_ne hoff hat (by omega)
                      have u3 : w1.frozen? ⟨b, 3, none⟩ = false := hB9.frozen 3
                      have u4 : w1.cell? ⟨b, 3, none⟩ = some (.slice a1 st.dels.length c1) := hB9.cell 3
                      have v2 : (w1.setCell ⟨b, 3, none⟩ (.slice (some ⟨gg, 0, none⟩) (st.dels.length + 1) cap)).cell? ⟨b, 2, none⟩ = some (.slice a0 st.toks.length c0) := (hB9.set_ 3 _).cell 2
                      have v1 : (w1.setCell ⟨b, 3, none⟩ (.slice (some ⟨gg, 0, none⟩) (st.dels.length + 1) cap)).cell? ⟨b, 1, none⟩ = some (.int .i64 i) := by rw [← hiH.out]; exact (hB9.set_ 3 _).cell 1
                      obtain ⟨hL8, hb8⟩ := delA hB9 hown1 hr9 hgb hnb hz9 hb9'
                      refine hK.out _ _ y2 (fun hHeld => ?_)
                      clear hK K
                      try simp only [Act.put, List.setIfInBounds_toArray, List.set_cons_zero, List.set_cons_succ]
                      refine wpAnyH_take (i := 15) (v := ?_) rfl (by kernel_rfl) (by kernel_rfl) (by kernel_rfl) (fun _ _ _ h => h) (Or.inl ⟨by rfl, ?_⟩) hHeld ?_
                      rotate_left
                      · intro w hSw
                        try dsimp only at hSw
                        go_simp
                        try with_reducible rfl
                      simp only [Act.put, List.setIfInBounds_toArray]
                      refine wpAnyH_take (i := 16) (v := ?_) rfl (by kernel_rfl) (by kernel_rfl) (by kernel_rfl) (fun _ _ _ h => h) (Or.inl ⟨by rfl, ?_⟩) hHeld ?_
                      rotate_left
                      · intro w hSw
                        try dsimp only at hSw
                        go_simp
                        try with_reducible rfl
                      simp only [Act.put]
                      refine wpAnyH_ready (rs := [17]) (by kernel_rfl) (by simp) ?_
                      refine AllReadyH.cons rfl (fun K hK => ?_) AllReadyH.nil
                      clear hHeld
                      go_simp
                      refine hK.out _ _ v2 (fun hHeld => ?_)
                      clear hK K
                      try simp only [Act.put, List.setIfInBounds_toArray, List.set_cons_zero, List.set_cons_succ]
                      refine wpAnyH_done (by kernel_rfl) ?_ _
                      refine NoPanic.normal ?_
                      have hL8H := Lib.hid hL8
                      have hb8H := Lib.hid hb8
                      clear hL8 hb8 hB9 hown1 hr9 hgrow hb9'
                      go_wp2_with (first | (go_at_call 55; rw [hsub.out]; refine (tok_at 1 m hL8H.out hs (by first | exact hpm.out | (rw [del_place]; exact hpm.out)) (by first | exact hlenB.out | (rw [del_toks]; exact hlenB.out))).mono ?_; rintro e w' ⟨rfl, hL9, hb9⟩))
                      go_ret2
                      rw [hr.out]
                      exact ⟨rfl, hL9, hb8H.out.trans hb9⟩
                · have hq2 : (x.toList == [60, 60, 45]) = false := by rw [eq_of_beq hq1]; rfl
                  have hdel : Hid (st.del = ⟨st.place, st.toks, st.dels ++ [(st.toks.length, false)]⟩) := Lib.hid (by unfold LS.del; rw [hx.out, hq1]; rfl)
                  rw [hdel.out] at hr
                  go_wp2_with (first | (go_at_call 68; refine (endsWord_any _ _).mono ?_; rintro e w' ⟨rfl, rfl⟩; rw [hE]))
                  go_quiet ((first | (go_at_call 70; exact Calls.quiet_of (digits_q _ _ _ hsz hD))))
                  go_wp2_with (first | (go_at_call 71; refine (last_at (hLH.out.drewN _) hlenA.out).mono ?_; rintro e w' ⟨rfl, rfl⟩; rw [hx.out]))
                  obtain ⟨W, hWe⟩ : ∃ W, W = w.drewN nq := ⟨_, rfl⟩
                  rw [← hWe]
                  have hBW : Blk W b 92 (rdC s st.place a0 st.toks.length c0 a1 st.dels.length c1) := by rw [hWe]; exact hBH.out
                  have hrW : W.ownsRow n₀ 58 5 (.slice a0 st.toks.length c0) st.toks.length (tv st.toks) := by rw [hWe]; exact hrH.out
                  have hdW : W.ownsRow n₀ 101 2 (.slice a1 st.dels.length c1) st.dels.length (dv st.dels) := by rw [hWe]; exact hdH.out
                  have hbW : Below n₀ w W := by rw [hWe]; exact ⟨rfl, rfl, rfl, Nat.le_refl _, fun _ _ => rfl⟩
                  have hnW : n₀ ≤ W.heap.size := by rw [hWe]; exact hLH.out.size
                  have hnb : n₀ ≤ b := hLH.out.base
                  clear hWe
                  obtain ⟨i0, hi0, hz0, hz1, hz2⟩ := info_parts infoDl
                  have hoff := row_off hBW (by decide) hdW
                  have hlt9 := hBW.lt
                  have x2 : W.drew.cell? ⟨b, 2, none⟩ = some (.slice a0 st.toks.length c0) := hBW.cell 2
                  have k3 : W.drew.cell? ⟨b, 3, none⟩ = some (.slice a1 st.dels.length c1) := hBW.cell 3
                  have hBW0 := Lib.hid hBW
                  have hrW0 := Lib.hid hrW
                  have hdW0 := Lib.hid hdW
                  have hbW0 := Lib.hid hbW
                  clear hBW hrW hdW hbW
                  have hbl : b < W.drew.heap.size := hlt9
                  have hbl2 : ∀ o, b < (W.drew.alloc o).heap.size := fun o => by rw [World.size_alloc]; omega
                  have hW9 : ∀ o, (W.alloc o).drew.heap.size = W.heap.size + 1 := fun o => by show (W.alloc o).heap.size = _; rw [World.size_alloc]
                  have z2 : (W.alloc (.cells #[.int .i64 (st.toks.length : Nat), .bool false] 101)).drew.cell? ⟨b, 2, none⟩ = some (.slice a0 st.toks.length c0) := cell_al hbl x2
                  have z3 : (W.alloc (.cells #[.int .i64 (st.toks.length : Nat), .bool false] 101)).drew.cell? ⟨b, 3, none⟩ = some (.slice a1 st.dels.length c1) := cell_al hbl k3
                  refine wp_region_noPanic ?_
                  refine wp_region_held_drew (S := (fun w' => w'.cell? ⟨b, 2, none⟩ = some (.slice a0 st.toks.length c0))) (by kernel_rfl) x2 (fun hHeld => ?_)
                  refine wpAnyH_take (i := 0) (v := ?_) rfl (by kernel_rfl) (by kernel_rfl) (by kernel_rfl) (fun _ _ _ h => h) (Or.inl ⟨by rfl, ?_⟩) hHeld ?_
                  rotate_left
                  · intro w hSw
                    try dsimp only at hSw
                    go_simp
                    try with_reducible rfl
                  simp only [Act.put, List.setIfInBounds_toArray]
                  refine wpAnyH_take (i := 1) (v := ?_) rfl (by kernel_rfl) (by kernel_rfl) (by kernel_rfl) (fun _ _ _ h => h) (Or.inl ⟨by rfl, ?_⟩) hHeld ?_
                  rotate_left
                  · intro w hSw
                    try dsimp only at hSw
                    go_simp
                    try with_reducible rfl
                  simp only [Act.put]
                  refine wpAnyH_take (i := 2) (v := ?_) rfl (by kernel_rfl) (by kernel_rfl) (by kernel_rfl) (fun _ _ _ h => h) (Or.inl ⟨by rfl, ?_⟩) hHeld ?_
                  rotate_left
                  · intro w hSw
                    try dsimp only at hSw
                    go_simp
                    try with_reducible rfl
                  simp only [Act.put]
                  refine wpAnyH_take (i := 3) (v := ?_) rfl (by kernel_rfl) (by kernel_rfl) (by kernel_rfl) (fun _ _ _ h => h) (Or.inl ⟨by rfl, ?_⟩) hHeld ?_
                  rotate_left
                  · intro w hSw
                    try dsimp only at hSw
                    go_simp
                    try with_reducible rfl
                  simp only [Act.put]
                  refine wpAnyH_take (i := 5) (v := ?_) rfl (by kernel_rfl) (by kernel_rfl) (by kernel_rfl) (fun _ _ _ h => h) (Or.inl ⟨by rfl, ?_⟩) hHeld ?_
                  rotate_left
                  · intro w hSw
                    try dsimp only at hSw
                    go_simp
                    try with_reducible rfl
                  simp only [Act.put]
                  refine wpAnyH_take (i := 6) (v := ?_) rfl (by kernel_rfl) (by kernel_rfl) (by kernel_rfl) (fun _ _ _ h => h) (Or.inl ⟨by rfl, ?_⟩) hHeld ?_
                  rotate_left
                  · intro w hSw
                    try dsimp only at hSw
                    go_simp
                    try with_reducible rfl
                  simp only [Act.put]
                  refine wpAnyH_take (i := 7) (v := ?_) rfl (by kernel_rfl) (by kernel_rfl) (by kernel_rfl) (fun _ _ _ h => h) (Or.inl ⟨by rfl, ?_⟩) hHeld ?_
                  rotate_left
                  · intro w hSw
                    try dsimp only at hSw
                    go_simp
                    try with_reducible rfl
                  simp only [Act.put]
                  refine wpAnyH_take (i := 8) (v := ?_) rfl (by kernel_rfl) (by kernel_rfl) (by kernel_rfl) (fun _ _ _ h => h) (Or.inl ⟨by rfl, ?_⟩) hHeld ?_
                  rotate_left
                  · intro w hSw
                    try dsimp only at hSw
                    go_simp
                    try with_reducible rfl
                  simp only [Act.put]
                  refine wpAnyH_take (i := 9) (v := ?_) rfl (by kernel_rfl) (by kernel_rfl) (by kernel_rfl) (fun _ _ _ h => h) (Or.inl ⟨by rfl, ?_⟩) hHeld ?_
                  rotate_left
                  · intro w hSw
                    try dsimp only at hSw
                    go_simp
                    try with_reducible rfl
                  simp only [Act.put]
                  refine wpAnyH_take (i := 10) (v := ?_) rfl (by kernel_rfl) (by kernel_rfl) (by kernel_rfl) (fun _ _ _ h => h) (Or.inl ⟨by rfl, ?_⟩) hHeld ?_
                  rotate_left
                  · intro w hSw
                    try dsimp only at hSw
                    go_simp
                    try with_reducible rfl
                  simp only [Act.put]
                  refine wpAnyH_take (i := 11) (v := ?_) rfl (by kernel_rfl) (by kernel_rfl) (by kernel_rfl) (fun _ _ _ h => h) (Or.inl ⟨by rfl, ?_⟩) hHeld ?_
                  rotate_left
                  · intro w hSw
                    try dsimp only at hSw
                    go_simp
                    try with_reducible rfl
                  simp only [Act.put]
                  refine wpAnyH_take (i := 12) (v := ?_) rfl (by kernel_rfl) (by kernel_rfl) (by kernel_rfl) (fun _ _ _ h => h) (Or.inl ⟨by rfl, ?_⟩) hHeld ?_
                  rotate_left
                  · intro w hSw
                    try dsimp only at hSw
                    go_simp
                    try with_reducible rfl
                  simp only [Act.put]
                  refine wpAnyH_ready (rs := [4, 13]) (by kernel_rfl) (by simp) ?_
                  refine AllReadyH.cons rfl (fun K hK => ?_) (AllReadyH.cons rfl (fun K hK => ?_) AllReadyH.nil)
                  · clear hHeld
                    go_simp
                    refine hK.out _ _ x2 (fun hHeld => ?_)
                    clear hK K
                    try simp only [Act.put, List.setIfInBounds_toArray, List.set_cons_zero, List.set_cons_succ]
                    refine wpAnyH_ready (rs := [13]) (by kernel_rfl) (by simp) ?_
                    refine AllReadyH.cons rfl (fun K hK => ?_) AllReadyH.nil
                    clear hHeld
                    go_simp
                    refine hK.out _ _ z2 (fun hHeld => ?_)
                    clear hK K
                    try simp only [Act.put, List.setIfInBounds_toArray, List.set_cons_zero, List.set_cons_succ]
                    refine wpAnyH_ready (rs := [14]) (by kernel_rfl) (by simp) ?_
                    refine AllReadyH.cons (o := { dst := some 124, op := .call { callee := .builtin .append, args := #[.tmp 114, .tmp 123], argTypes := #[90, 90] }, type := 90, pos := "reader.go:82", after := #[{ on := 4, ground := .data }, { on := 13, ground := .data }], guard := none }) rfl (fun K hK => ?_) AllReadyH.nil
                    clear hHeld
                    refine step_append_lies _ (by rfl) _ _ _ (by rfl) n₀ 101 i0 _ 2 16 Tryz.underlying90 hi0 hz0 hz1 hz2 rfl (by omega) (.slice a1 st.dels.length c1) st.dels.length (dv st.dels) (by rfl) (World.ownsRow.alloc (show World.ownsRow W.drew _ _ _ _ _ _ from hdW0.out) _)
                      ⟨W.heap.size, 0, none⟩ 1 1 [.int .i64 (st.toks.length : Nat), .bool false] (by rfl) (by rfl) (World.news_of_block (cs := #[.int .i64 (st.toks.length : Nat), .bool false]) (t := 101) (fr := (0, 0)) (heap_alloc_new W.drew _)) (by simp [Value.oneCell'])
                      (by omega) (by unfold maxLen; omega) (by omega) (by rw [hW9]; omega) (W.heap.size + 1) (hW9 _) ?_
                    intro gg cap w1 hown1 hgrow hat hlt1
                    have y2 := (hgrow.cell_far _ (hbl2 _) hoff).trans z2
                    have hB9 : Blk w1 b 92 (rdC s st.place a0 st.toks.length c0 a1 st.dels.length c1) := (hgrow.block b (hbl2 _) hoff).trans ((Below.heap_alloc W.drew _ b hbl).trans hBW0.out)
                    have hr9 : w1.ownsRow n₀ 58 5 (.slice a0 st.toks.length c0) st.toks.length (tv st.toks) := row_keep hrW0.out (fun g hg => (hgrow.block g (by rw [hW9]; have := row_lt hrW0.out hg; omega) (row_row (by decide) hrW0.out hdW0.out hg)).trans (Below.heap_alloc W.drew _ g (row_lt hrW0.out hg)))
                    have hz9 : n₀ ≤ w1.heap.size := Nat.le_trans (by rw [hW9]; omega) hgrow.size
                    have hb9' : Below n₀ w w1 := ⟨hgrow.os.trans hbW0.out.os, hgrow.tape.trans hbW0.out.tape, hgrow.output.trans hbW0.out.output, Nat.le_trans hbW0.out.size (Nat.le_trans (by rw [hW9]; omega) hgrow.size), fun k hk => (hgrow.block k (by rw [hW9]; omega) (fun e => by have := (hdW0.out.lt k e.symm).1; omega)).trans ((Below.heap_alloc W.drew _ k (by show k < W.heap.size; omega)).trans (hbW0.out.block k hk))⟩
                    have hgb : b ≠ gg := gg_ne hoff hat (by omega)
                    have u3 : w1.frozen? ⟨b, 3, none⟩ = false := hB9.frozen 3
                    have u4 : w1.cell? ⟨b, 3, none⟩ = some (.slice a1 st.dels.length c1) := hB9.cell 3
                    have v2 : (w1.setCell ⟨b, 3, none⟩ (.slice (some ⟨gg, 0, none⟩) (st.dels.length + 1) cap)).cell? ⟨b, 2, none⟩ = some (.slice a0 st.toks.length c0) := (hB9.set_ 3 _).cell 2
                    have v1 : (w1.setCell ⟨b, 3, none⟩ (.slice (some ⟨gg, 0, none⟩) (st.dels.length + 1) cap)).cell? ⟨b, 1, none⟩ = some (.int .i64 i) := by rw [← hiH.out]; exact (hB9.set_ 3 _).cell 1
                    obtain ⟨hL8, hb8⟩ := delA hB9 hown1 hr9 hgb hnb hz9 hb9'
                    refine hK.out _ _ y2 (fun hHeld => ?_)
                    clear hK K
                    try simp only [Act.put, List.setIfInBounds_toArray, List.set_cons_zero, List.set_cons_succ]
                    refine wpAnyH_take (i := 15) (v := ?_) rfl (by kernel_rfl) (by kernel_rfl) (by kernel_rfl) (fun _ _ _ h => h) (Or.inl ⟨by rfl, ?_⟩) hHeld ?_
                    rotate_left
                    · intro w hSw
                      try dsimp only at hSw
                      go_simp
                      try with_reducible rfl
                    simp only [Act.put, List.setIfInBounds_toArray]
                    refine wpAnyH_take (i := 16) (v := ?_) rfl (by kernel_rfl) (by kernel_rfl) (by kernel_rfl) (fun _ _ _ h => h) (Or.inl ⟨by rfl, ?_⟩) hHeld ?_
                    rotate_left
                    · intro w hSw
                      try dsimp only at hSw
                      go_simp
                      try with_reducible rfl
                    simp only [Act.put]
                    refine wpAnyH_ready (rs := [17]) (by kernel_rfl) (by simp) ?_
                    refine AllReadyH.cons rfl (fun K hK => ?_) AllReadyH.nil
                    clear hHeld
                    go_simp
                    refine hK.out _ _ v2 (fun hHeld => ?_)
                    clear hK K
                    try simp only [Act.put, List.setIfInBounds_toArray, List.set_cons_zero, List.set_cons_succ]
                    refine wpAnyH_done (by kernel_rfl) ?_ _
                    refine NoPanic.normal ?_
                    have hL8H := Lib.hid hL8
                    have hb8H := Lib.hid hb8
                    clear hL8 hb8 hB9 hown1 hr9 hgrow hb9'
                    go_wp2_with (first | (go_at_call 55; rw [hsub.out]; refine (tok_at 1 m hL8H.out hs (by first | exact hpm.out | (rw [del_place]; exact hpm.out)) (by first | exact hlenB.out | (rw [del_toks]; exact hlenB.out))).mono ?_; rintro e w' ⟨rfl, hL9, hb9⟩))
                    go_ret2
                    rw [hr.out]
                    exact ⟨rfl, hL9, hb8H.out.trans hb9⟩
                  · clear hHeld
                    go_simp
                    refine hK.out _ _ z2 (fun hHeld => ?_)
                    clear hK K
                    try simp only [Act.put, List.setIfInBounds_toArray, List.set_cons_zero, List.set_cons_succ]
                    refine wpAnyH_ready (rs := [4]) (by kernel_rfl) (by simp) ?_
                    refine AllReadyH.cons rfl (fun K hK => ?_) AllReadyH.nil
                    clear hHeld
                    go_simp
                    refine hK.out _ _ z2 (fun hHeld => ?_)
                    clear hK K
                    try simp only [Act.put, List.setIfInBounds_toArray, List.set_cons_zero, List.set_cons_succ]
                    refine wpAnyH_ready (rs := [14]) (by kernel_rfl) (by simp) ?_
                    refine AllReadyH.cons (o := { dst := some 124, op := .call { callee := .builtin .append, args := #[.tmp 114, .tmp 123], argTypes := #[90, 90] }, type := 90, pos := "reader.go:82", after := #[{ on := 4, ground := .data }, { on := 13, ground := .data }], guard := none }) rfl (fun K hK => ?_) AllReadyH.nil
                    clear hHeld
                    refine step_append_lies _ (by rfl) _ _ _ (by rfl) n₀ 101 i0 _ 2 16 Tryz.underlying90 hi0 hz0 hz1 hz2 rfl (by omega) (.slice a1 st.dels.length c1) st.dels.length (dv st.dels) (by rfl) (World.ownsRow.alloc (show World.ownsRow W.drew _ _ _ _ _ _ from hdW0.out) _)
                      ⟨W.heap.size, 0, none⟩ 1 1 [.int .i64 (st.toks.length : Nat), .bool false] (by rfl) (by rfl) (World.news_of_block (cs := #[.int .i64 (st.toks.length : Nat), .bool false]) (t := 101) (fr := (0, 0)) (heap_alloc_new W.drew _)) (by simp [Value.oneCell'])
                      (by omega) (by unfold maxLen; omega) (by omega) (by rw [hW9]; omega) (W.heap.size + 1) (hW9 _) ?_
                    intro gg cap w1 hown1 hgrow hat hlt1
                    have y2 := (hgrow.cell_far _ (hbl2 _) hoff).trans z2
                    have hB9 : Blk w1 b 92 (rdC s st.place a0 st.toks.length c0 a1 st.dels.length c1) := (hgrow.block b (hbl2 _) hoff).trans ((Below.heap_alloc W.drew _ b hbl).trans hBW0.out)
                    have hr9 : w1.ownsRow n₀ 58 5 (.slice a0 st.toks.length c0) st.toks.length (tv st.toks) := row_keep hrW0.out (fun g hg => (hgrow.block g (by rw [hW9]; have := row_lt hrW0.out hg; omega) (row_row (by decide) hrW0.out hdW0.out hg)).trans (Below.heap_alloc W.drew _ g (row_lt hrW0.out hg)))
                    have hz9 : n₀ ≤ w1.heap.size := Nat.le_trans (by rw [hW9]; omega) hgrow.size
                    have hb9' : Below n₀ w w1 := ⟨hgrow.os.trans hbW0.out.os, hgrow.tape.trans hbW0.out.tape, hgrow.output.trans hbW0.out.output, Nat.le_trans hbW0.out.size (Nat.le_trans (by rw [hW9]; omega) hgrow.size), fun k hk => (hgrow.block k (by rw [hW9]; omega) (fun e => by have := (hdW0.out.lt k e.symm).1; omega)).trans ((Below.heap_alloc W.drew _ k (by show k < W.heap.size; omega)).trans (hbW0.out.block k hk))⟩
                    have hgb : b ≠ gg := gg_ne hoff hat (by omega)
                    have u3 : w1.frozen? ⟨b, 3, none⟩ = false := hB9.frozen 3
                    have u4 : w1.cell? ⟨b, 3, none⟩ = some (.slice a1 st.dels.length c1) := hB9.cell 3
                    have v2 : (w1.setCell ⟨b, 3, none⟩ (.slice (some ⟨gg, 0, none⟩) (st.dels.length + 1) cap)).cell? ⟨b, 2, none⟩ = some (.slice a0 st.toks.length c0) := (hB9.set_ 3 _).cell 2
                    have v1 : (w1.setCell ⟨b, 3, none⟩ (.slice (some ⟨gg, 0, none⟩) (st.dels.length + 1) cap)).cell? ⟨b, 1, none⟩ = some (.int .i64 i) := by rw [← hiH.out]; exact (hB9.set_ 3 _).cell 1
                    obtain ⟨hL8, hb8⟩ := delA hB9 hown1 hr9 hgb hnb hz9 hb9'
                    refine hK.out _ _ y2 (fun hHeld => ?_)
                    clear hK K
                    try simp only [Act.put, List.setIfInBounds_toArray, List.set_cons_zero, List.set_cons_succ]
                    refine wpAnyH_take (i := 15) (v := ?_) rfl (by kernel_rfl) (by kernel_rfl) (by kernel_rfl) (fun _ _ _ h => h) (Or.inl ⟨by rfl, ?_⟩) hHeld ?_
                    rotate_left
                    · intro w hSw
                      try dsimp only at hSw
                      go_simp
                      try with_reducible rfl
                    simp only [Act.put, List.setIfInBounds_toArray]
                    refine wpAnyH_take (i := 16) (v := ?_) rfl (by kernel_rfl) (by kernel_rfl) (by kernel_rfl) (fun _ _ _ h => h) (Or.inl ⟨by rfl, ?_⟩) hHeld ?_
                    rotate_left
                    · intro w hSw
                      try dsimp only at hSw
                      go_simp
                      try with_reducible rfl
                    simp only [Act.put]
                    refine wpAnyH_ready (rs := [17]) (by kernel_rfl) (by simp) ?_
                    refine AllReadyH.cons rfl (fun K hK => ?_) AllReadyH.nil
                    clear hHeld
                    go_simp
                    refine hK.out _ _ v2 (fun hHeld => ?_)
                    clear hK K
                    try simp only [Act.put, List.setIfInBounds_toArray, List.set_cons_zero, List.set_cons_succ]
                    refine wpAnyH_done (by kernel_rfl) ?_ _
                    refine NoPanic.normal ?_
                    have hL8H := Lib.hid hL8
                    have hb8H := Lib.hid hb8
                    clear hL8 hb8 hB9 hown1 hr9 hgrow hb9'
                    go_wp2_with (first | (go_at_call 55; rw [hsub.out]; refine (tok_at 1 m hL8H.out hs (by first | exact hpm.out | (rw [del_place]; exact hpm.out)) (by first | exact hlenB.out | (rw [del_toks]; exact hlenB.out))).mono ?_; rintro e w' ⟨rfl, hL9, hb9⟩))
                    go_ret2
                    rw [hr.out]
                    exact ⟨rfl, hL9, hb8H.out.trans hb9⟩
              · have hred : Hid (redM s (st.place + m) = true) := Lib.hid (by rw [hiH.out]; unfold redM; rw [decide_eq_true hlt, h60, h62]; rfl)
                have hr := Lib.hid (word_num hend.out hbig (by rw [hiH.out, hD.out, ← hiH.out, hred.out]; rfl))
                go_wp2_with (first | (go_at_call 68; refine (endsWord_any _ _).mono ?_; rintro e w' ⟨rfl, rfl⟩; rw [hE]))
                go_quiet ((first | (go_at_call 70; exact Calls.quiet_of (digits_q _ _ _ hsz hD))))
                go_wp2_with (first | (go_at_call 55; rw [hsub.out]; refine (tok_at 4 m (hLH.out.drewN _) hs (by first | exact hpm.out | (rw [del_place]; exact hpm.out)) (by first | exact hlenB.out | (rw [del_toks]; exact hlenB.out))).mono ?_; rintro e w' ⟨rfl, hL9, hb9⟩))
                go_ret2
                rw [hr.out]
                exact ⟨rfl, hL9, ⟨hb9.os, hb9.tape, hb9.output, hb9.size, hb9.block⟩⟩
            · have hred : Hid (redM s (st.place + m) = true) := Lib.hid (by rw [hiH.out]; unfold redM; rw [decide_eq_true hlt, h60]; rfl)
              have hr := Lib.hid (word_num hend.out hbig (by rw [hiH.out, hD.out, ← hiH.out, hred.out]; rfl))
              go_wp2_with (first | (go_at_call 68; refine (endsWord_any _ _).mono ?_; rintro e w' ⟨rfl, rfl⟩; rw [hE]))
              go_quiet ((first | (go_at_call 70; exact Calls.quiet_of (digits_q _ _ _ hsz hD))))
              go_wp2_with (first | (go_at_call 55; rw [hsub.out]; refine (tok_at 4 m (hLH.out.drewN _) hs (by first | exact hpm.out | (rw [del_place]; exact hpm.out)) (by first | exact hlenB.out | (rw [del_toks]; exact hlenB.out))).mono ?_; rintro e w' ⟨rfl, hL9, hb9⟩))
              go_ret2
              rw [hr.out]
              exact ⟨rfl, hL9, ⟨hb9.os, hb9.tape, hb9.output, hb9.size, hb9.block⟩⟩
    · have hend := Lib.hid (show wEnd s s.size st.place = ⟨st.place + m, 0, 0⟩ by rw [hiH.out, hm.out, wEnd_end hlt])
      have hsub : Hid ((i : Int) + (m : Int) - (i : Int) = (m : Int)) := Lib.hid (by omega)
      have hpm : Hid (st.place + m ≤ s.size) := Lib.hid (by rw [hiH.out]; exact hm1)
      by_cases hbig : 4096 < m
      · have hr := Lib.hid (word_long hend.out hbig)
        go_wp2
        go_ret2
        rw [hr.out, hiH.out]
        exact ⟨rfl, hLH.out, Below.refl _ _⟩
      · have hsz : (s.extract i (i + m)).size ≤ 100000 := by rw [ByteArray.size_extract]; omega
        cases hD0 : digsM (s.extract i (i + m))
        · have hD := Lib.hid hD0
          clear hD0
          have hred : Hid (redM s (st.place + m) = false) := Lib.hid (by rw [hiH.out]; unfold redM; rw [decide_eq_false hlt]; rfl)
          have hge : ¬ ((i : Int) + (m : Int) < (s.size : Int)) := by omega
          have hge2 : (s.size : Int) ≤ (i : Int) + (m : Int) := by omega
          have hdec : decide ((i : Int) + (m : Int) < (s.size : Int)) = false := decide_eq_false hge
          have hr := Lib.hid (word_word hend.out hbig (by rw [hiH.out, hD.out, ← hiH.out, hred.out]; rfl))
          obtain ⟨x, hx0⟩ : ∃ x, lastM st.toks = x := ⟨_, rfl⟩
          have hx := Lib.hid hx0
          clear hx0
          cases hq1 : (x.toList == [60, 60])
          · cases hq2 : (x.toList == [60, 60, 45])
            · have hdel : Hid (st.del = st) := Lib.hid (by unfold LS.del; rw [hx.out, hq1, hq2]; rfl)
              rw [hdel.out] at hr
              go_wp2_with fail
              go_quiet ((first | (go_at_call 70; exact Calls.quiet_of (digits_q _ _ _ hsz hD))))
              go_wp2_with (first | (go_at_call 71; refine (last_at (hLH.out.drewN _) hlenA.out).mono ?_; rintro e w' ⟨rfl, rfl⟩; rw [hx.out]) | (go_at_call 55; rw [hsub.out]; refine (tok_at 1 m (hLH.out.drewN _) hs (by first | exact hpm.out | (rw [del_place]; exact hpm.out)) (by first | exact hlenB.out | (rw [del_toks]; exact hlenB.out))).mono ?_; rintro e w' ⟨rfl, hL9, hb9⟩))
              go_ret2
              rw [hr.out]
              exact ⟨rfl, hL9, ⟨hb9.os, hb9.tape, hb9.output, hb9.size, hb9.block⟩⟩
            · have hdel : Hid (st.del = ⟨st.place, st.toks, st.dels ++ [(st.toks.length, true)]⟩) := Lib.hid (by unfold LS.del; rw [hx.out, hq1, hq2]; rfl)
              rw [hdel.out] at hr
              go_wp2_with fail
              go_quiet ((first | (go_at_call 70; exact Calls.quiet_of (digits_q _ _ _ hsz hD))))
              go_wp2_with (first | (go_at_call 71; refine (last_at (hLH.out.drewN _) hlenA.out).mono ?_; rintro e w' ⟨rfl, rfl⟩; rw [hx.out]))
              obtain ⟨W, hWe⟩ : ∃ W, W = w.drewN nq := ⟨_, rfl⟩
              rw [← hWe]
              have hBW : Blk W b 92 (rdC s st.place a0 st.toks.length c0 a1 st.dels.length c1) := by rw [hWe]; exact hBH.out
              have hrW : W.ownsRow n₀ 58 5 (.slice a0 st.toks.length c0) st.toks.length (tv st.toks) := by rw [hWe]; exact hrH.out
              have hdW : W.ownsRow n₀ 101 2 (.slice a1 st.dels.length c1) st.dels.length (dv st.dels) := by rw [hWe]; exact hdH.out
              have hbW : Below n₀ w W := by rw [hWe]; exact ⟨rfl, rfl, rfl, Nat.le_refl _, fun _ _ => rfl⟩
              have hnW : n₀ ≤ W.heap.size := by rw [hWe]; exact hLH.out.size
              have hnb : n₀ ≤ b := hLH.out.base
              clear hWe
              obtain ⟨i0, hi0, hz0, hz1, hz2⟩ := info_parts infoDl
              have hoff := row_off hBW (by decide) hdW
              have hlt9 := hBW.lt
              have x2 : W.drew.cell? ⟨b, 2, none⟩ = some (.slice a0 st.toks.length c0) := hBW.cell 2
              have k3 : W.drew.cell? ⟨b, 3, none⟩ = some (.slice a1 st.dels.length c1) := hBW.cell 3
              have hBW0 := Lib.hid hBW
              have hrW0 := Lib.hid hrW
              have hdW0 := Lib.hid hdW
              have hbW0 := Lib.hid hbW
              clear hBW hrW hdW hbW
              have hbl : b < W.drew.heap.size := hlt9
              have hbl2 : ∀ o, b < (W.drew.alloc o).heap.size := fun o => by rw [World.size_alloc]; omega
              have hW9 : ∀ o, (W.alloc o).drew.heap.size = W.heap.size + 1 := fun o => by show (W.alloc o).heap.size = _; rw [World.size_alloc]
              have z2 : (W.alloc (.cells #[.int .i64 (st.toks.length : Nat), .bool true] 101)).drew.cell? ⟨b, 2, none⟩ = some (.slice a0 st.toks.length c0) := cell_al hbl x2
              have z3 : (W.alloc (.cells #[.int .i64 (st.toks.length : Nat), .bool true] 101)).drew.cell? ⟨b, 3, none⟩ = some (.slice a1 st.dels.length c1) := cell_al hbl k3
              refine wp_region_noPanic ?_
              refine wp_region_held_drew (S := (fun w' => w'.cell? ⟨b, 2, none⟩ = some (.slice a0 st.toks.length c0))) (by kernel_rfl) x2 (fun hHeld => ?_)
              refine wpAnyH_take (i := 0) (v := ?_) rfl (by kernel_rfl) (by kernel_rfl) (by kernel_rfl) (fun _ _ _ h => h) (Or.inl ⟨by rfl, ?_⟩) hHeld ?_
              rotate_left
              · intro w hSw
                try dsimp only at hSw
                go_simp
                try with_reducible rfl
              simp only [Act.put, List.setIfInBounds_toArray]
              refine wpAnyH_take (i := 1) (v := ?_) rfl (by kernel_rfl) (by kernel_rfl) (by kernel_rfl) (fun _ _ _ h => h) (Or.inl ⟨by rfl, ?_⟩) hHeld ?_
              rotate_left
              · intro w hSw
                try dsimp only at hSw
                go_simp
                try with_reducible rfl
              simp only [Act.put]
              refine wpAnyH_take (i := 2) (v := ?_) rfl (by kernel_rfl) (by kernel_rfl) (by kernel_rfl) (fun _ _ _ h => h) (Or.inl ⟨by rfl, ?_⟩) hHeld ?_
              rotate_left
              · intro w hSw
                try dsimp only at hSw
                go_simp
                try with_reducible rfl
              simp only [Act.put]
              refine wpAnyH_take (i := 3) (v := ?_) rfl (by kernel_rfl) (by kernel_rfl) (by kernel_rfl) (fun _ _ _ h => h) (Or.inl ⟨by rfl, ?_⟩) hHeld ?_
              rotate_left
              · intro w hSw
                try dsimp only at hSw
                go_simp
                try with_reducible rfl
              simp only [Act.put]
              refine wpAnyH_take (i := 5) (v := ?_) rfl (by kernel_rfl) (by kernel_rfl) (by kernel_rfl) (fun _ _ _ h => h) (Or.inl ⟨by rfl, ?_⟩) hHeld ?_
              rotate_left
              · intro w hSw
                try dsimp only at hSw
                go_simp
                try with_reducible rfl
              simp only [Act.put]
              refine wpAnyH_take (i := 6) (v := ?_) rfl (by kernel_rfl) (by kernel_rfl) (by kernel_rfl) (fun _ _ _ h => h) (Or.inl ⟨by rfl, ?_⟩) hHeld ?_
              rotate_left
              · intro w hSw
                try dsimp only at hSw
                go_simp
                try with_reducible rfl
              simp only [Act.put]
              refine wpAnyH_take (i := 7) (v := ?_) rfl (by kernel_rfl) (by kernel_rfl) (by kernel_rfl) (fun _ _ _ h => h) (Or.inl ⟨by rfl, ?_⟩) hHeld ?_
              rotate_left
              · intro w hSw
                try dsimp only at hSw
                go_simp
                try with_reducible rfl
              simp only [Act.put]
              refine wpAnyH_take (i := 8) (v := ?_) rfl (by kernel_rfl) (by kernel_rfl) (by kernel_rfl) (fun _ _ _ h => h) (Or.inl ⟨by rfl, ?_⟩) hHeld ?_
              rotate_left
              · intro w hSw
                try dsimp only at hSw
                go_simp
                try with_reducible rfl
              simp only [Act.put]
              refine wpAnyH_take (i := 9) (v := ?_) rfl (by kernel_rfl) (by kernel_rfl) (by kernel_rfl) (fun _ _ _ h => h) (Or.inl ⟨by rfl, ?_⟩) hHeld ?_
              rotate_left
              · intro w hSw
                try dsimp only at hSw
                go_simp
                try with_reducible rfl
              simp only [Act.put]
              refine wpAnyH_take (i := 10) (v := ?_) rfl (by kernel_rfl) (by kernel_rfl) (by kernel_rfl) (fun _ _ _ h => h) (Or.inl ⟨by rfl, ?_⟩) hHeld ?_
              rotate_left
              · intro w hSw
                try dsimp only at hSw
                go_simp
                try with_reducible rfl
              simp only [Act.put]
              refine wpAnyH_take (i := 11) (v := ?_) rfl (by kernel_rfl) (by kernel_rfl) (by kernel_rfl) (fun _ _ _ h => h) (Or.inl ⟨by rfl, ?_⟩) hHeld ?_
              rotate_left
              · intro w hSw
                try dsimp only at hSw
                go_simp
                try with_reducible rfl
              simp only [Act.put]
              refine wpAnyH_take (i := 12) (v := ?_) rfl (by kernel_rfl) (by kernel_rfl) (by kernel_rfl) (fun _ _ _ h => h) (Or.inl ⟨by rfl, ?_⟩) hHeld ?_
              rotate_left
              · intro w hSw
                try dsimp only at hSw
                go_simp
                try with_reducible rfl
              simp only [Act.put]
              refine wpAnyH_ready (rs := [4, 13]) (by kernel_rfl) (by simp) ?_
              refine AllReadyH.cons rfl (fun K hK => ?_) (AllReadyH.cons rfl (fun K hK => ?_) AllReadyH.nil)
              · clear hHeld
                go_simp
                refine hK.out _ _ x2 (fun hHeld => ?_)
                clear hK K
                try simp only [Act.put, List.setIfInBounds_toArray, List.set_cons_zero, List.set_cons_succ]
                refine wpAnyH_ready (rs := [13]) (by kernel_rfl) (by simp) ?_
                refine AllReadyH.cons rfl (fun K hK => ?_) AllReadyH.nil
                clear hHeld
                go_simp
                refine hK.out _ _ z2 (fun hHeld => ?_)
                clear hK K
                try simp only [Act.put, List.setIfInBounds_toArray, List.set_cons_zero, List.set_cons_succ]
                refine wpAnyH_ready (rs := [14]) (by kernel_rfl) (by simp) ?_
                refine AllReadyH.cons (o := { dst := some 124, op := .call { callee := .builtin .append, args := #[.tmp 114, .tmp 123], argTypes := #[90, 90] }, type := 90, pos := "reader.go:82", after := #[{ on := 4, ground := .data }, { on := 13, ground := .data }], guard := none }) rfl (fun K hK => ?_) AllReadyH.nil
                clear hHeld
                refine step_append_lies _ (by rfl) _ _ _ (by rfl) n₀ 101 i0 _ 2 16 Tryz.underlying90 hi0 hz0 hz1 hz2 rfl (by omega) (.slice a1 st.dels.length c1) st.dels.length (dv st.dels) (by rfl) (World.ownsRow.alloc (show World.ownsRow W.drew _ _ _ _ _ _ from hdW0.out) _)
                  ⟨W.heap.size, 0, none⟩ 1 1 [.int .i64 (st.toks.length : Nat), .bool true] (by rfl) (by rfl) (World.news_of_block (cs := #[.int .i64 (st.toks.length : Nat), .bool true]) (t := 101) (fr := (0, 0)) (heap_alloc_new W.drew _)) (by simp [Value.oneCell'])
                  (by omega) (by unfold maxLen; omega) (by omega) (by rw [hW9]; omega) (W.heap.size + 1) (hW9 _) ?_
                intro gg cap w1 hown1 hgrow hat hlt1
                have y2 := (hgrow.cell_far _ (hbl2 _) hoff).trans z2
                have hB9 : Blk w1 b 92 (rdC s st.place a0 st.toks.length c0 a1 st.dels.length c1) := (hgrow.block b (hbl2 _) hoff).trans ((Below.heap_alloc W.drew _ b hbl).trans hBW0.out)
                have hr9 : w1.ownsRow n₀ 58 5 (.slice a0 st.toks.length c0) st.toks.length (tv st.toks) := row_keep hrW0.out (fun g hg => (hgrow.block g (by rw [hW9]; have := row_lt hrW0.out hg; omega) (row_row (by decide) hrW0.out hdW0.out hg)).trans (Below.heap_alloc W.drew _ g (row_lt hrW0.out hg)))
                have hz9 : n₀ ≤ w1.heap.size := Nat.le_trans (by rw [hW9]; omega) hgrow.size
                have hb9' : Below n₀ w w1 := ⟨hgrow.os.trans hbW0.out.os, hgrow.tape.trans hbW0.out.tape, hgrow.output.trans hbW0.out.output, Nat.le_trans hbW0.out.size (Nat.le_trans (by rw [hW9]; omega) hgrow.size), fun k hk => (hgrow.block k (by rw [hW9]; omega) (fun e => by have := (hdW0.out.lt k e.symm).1; omega)).trans ((Below.heap_alloc W.drew _ k (by show k < W.heap.size; omega)).trans (hbW0.out.block k hk))⟩
                have hgb : b ≠ gg := gg_ne hoff hat (by omega)
                have u3 : w1.frozen? ⟨b, 3, none⟩ = false := hB9.frozen 3
                have u4 : w1.cell? ⟨b, 3, none⟩ = some (.slice a1 st.dels.length c1) := hB9.cell 3
                have v2 : (w1.setCell ⟨b, 3, none⟩ (.slice (some ⟨gg, 0, none⟩) (st.dels.length + 1) cap)).cell? ⟨b, 2, none⟩ = some (.slice a0 st.toks.length c0) := (hB9.set_ 3 _).cell 2
                have v1 : (w1.setCell ⟨b, 3, none⟩ (.slice (some ⟨gg, 0, none⟩) (st.dels.length + 1) cap)).cell? ⟨b, 1, none⟩ = some (.int .i64 i) := by rw [← hiH.out]; exact (hB9.set_ 3 _).cell 1
                obtain ⟨hL8, hb8⟩ := delA hB9 hown1 hr9 hgb hnb hz9 hb9'
                refine hK.out _ _ y2 (fun hHeld => ?_)
                clear hK K
                try simp only [Act.put, List.setIfInBounds_toArray, List.set_cons_zero, List.set_cons_succ]
                refine wpAnyH_take (i := 15) (v := ?_) rfl (by kernel_rfl) (by kernel_rfl) (by kernel_rfl) (fun _ _ _ h => h) (Or.inl ⟨by rfl, ?_⟩) hHeld ?_
                rotate_left
                · intro w hSw
                  try dsimp only at hSw
                  go_simp
                  try with_reducible rfl
                simp only [Act.put, List.setIfInBounds_toArray]
                refine wpAnyH_take (i := 16) (v := ?_) rfl (by kernel_rfl) (by kernel_rfl) (by kernel_rfl) (fun _ _ _ h => h) (Or.inl ⟨by rfl, ?_⟩) hHeld ?_
                rotate_left
                · intro w hSw
                  try dsimp only at hSw
                  go_simp
                  try with_reducible rfl
                simp only [Act.put]
                refine wpAnyH_ready (rs := [17]) (by kernel_rfl) (by simp) ?_
                refine AllReadyH.cons rfl (fun K hK => ?_) AllReadyH.nil
                clear hHeld
                go_simp
                refine hK.out _ _ v2 (fun hHeld => ?_)
                clear hK K
                try simp only [Act.put, List.setIfInBounds_toArray, List.set_cons_zero, List.set_cons_succ]
                refine wpAnyH_done (by kernel_rfl) ?_ _
                refine NoPanic.normal ?_
                have hL8H := Lib.hid hL8
                have hb8H := Lib.hid hb8
                clear hL8 hb8 hB9 hown1 hr9 hgrow hb9'
                go_wp2_with (first | (go_at_call 55; rw [hsub.out]; refine (tok_at 1 m hL8H.out hs (by first | exact hpm.out | (rw [del_place]; exact hpm.out)) (by first | exact hlenB.out | (rw [del_toks]; exact hlenB.out))).mono ?_; rintro e w' ⟨rfl, hL9, hb9⟩))
                go_ret2
                rw [hr.out]
                exact ⟨rfl, hL9, hb8H.out.trans hb9⟩
              · clear hHeld
                go_simp
                refine hK.out _ _ z2 (fun hHeld => ?_)
                clear hK K
                try simp only [Act.put, List.setIfInBounds_toArray, List.set_cons_zero, List.set_cons_succ]
                refine wpAnyH_ready (rs := [4]) (by kernel_rfl) (by simp) ?_
                refine AllReadyH.cons rfl (fun K hK => ?_) AllReadyH.nil
                clear hHeld
                go_simp
                refine hK.out _ _ z2 (fun hHeld => ?_)
                clear hK K
                try simp only [Act.put, List.setIfInBounds_toArray, List.set_cons_zero, List.set_cons_succ]
                refine wpAnyH_ready (rs := [14]) (by kernel_rfl) (by simp) ?_
                refine AllReadyH.cons (o := { dst := some 124, op := .call { callee := .builtin .append, args := #[.tmp 114, .tmp 123], argTypes := #[90, 90] }, type := 90, pos := "reader.go:82", after := #[{ on := 4, ground := .data }, { on := 13, ground := .data }], guard := none }) rfl (fun K hK => ?_) AllReadyH.nil
                clear hHeld
                refine step_append_lies _ (by rfl) _ _ _ (by rfl) n₀ 101 i0 _ 2 16 Tryz.underlying90 hi0 hz0 hz1 hz2 rfl (by omega) (.slice a1 st.dels.length c1) st.dels.length (dv st.dels) (by rfl) (World.ownsRow.alloc (show World.ownsRow W.drew _ _ _ _ _ _ from hdW0.out) _)
                  ⟨W.heap.size, 0, none⟩ 1 1 [.int .i64 (st.toks.length : Nat), .bool true] (by rfl) (by rfl) (World.news_of_block (cs := #[.int .i64 (st.toks.length : Nat), .bool true]) (t := 101) (fr := (0, 0)) (heap_alloc_new W.drew _)) (by simp [Value.oneCell'])
                  (by omega) (by unfold maxLen; omega) (by omega) (by rw [hW9]; omega) (W.heap.size + 1) (hW9 _) ?_
                intro gg cap w1 hown1 hgrow hat hlt1
                have y2 := (hgrow.cell_far _ (hbl2 _) hoff).trans z2
                have hB9 : Blk w1 b 92 (rdC s st.place a0 st.toks.length c0 a1 st.dels.length c1) := (hgrow.block b (hbl2 _) hoff).trans ((Below.heap_alloc W.drew _ b hbl).trans hBW0.out)
                have hr9 : w1.ownsRow n₀ 58 5 (.slice a0 st.toks.length c0) st.toks.length (tv st.toks) := row_keep hrW0.out (fun g hg => (hgrow.block g (by rw [hW9]; have := row_lt hrW0.out hg; omega) (row_row (by decide) hrW0.out hdW0.out hg)).trans (Below.heap_alloc W.drew _ g (row_lt hrW0.out hg)))
                have hz9 : n₀ ≤ w1.heap.size := Nat.le_trans (by rw [hW9]; omega) hgrow.size
                have hb9' : Below n₀ w w1 := ⟨hgrow.os.trans hbW0.out.os, hgrow.tape.trans hbW0.out.tape, hgrow.output.trans hbW0.out.output, Nat.le_trans hbW0.out.size (Nat.le_trans (by rw [hW9]; omega) hgrow.size), fun k hk => (hgrow.block k (by rw [hW9]; omega) (fun e => by have := (hdW0.out.lt k e.symm).1; omega)).trans ((Below.heap_alloc W.drew _ k (by show k < W.heap.size; omega)).trans (hbW0.out.block k hk))⟩
                have hgb : b ≠ gg := gg_ne hoff hat (by omega)
                have u3 : w1.frozen? ⟨b, 3, none⟩ = false := hB9.frozen 3
                have u4 : w1.cell? ⟨b, 3, none⟩ = some (.slice a1 st.dels.length c1) := hB9.cell 3
                have v2 : (w1.setCell ⟨b, 3, none⟩ (.slice (some ⟨gg, 0, none⟩) (st.dels.length + 1) cap)).cell? ⟨b, 2, none⟩ = some (.slice a0 st.toks.length c0) := (hB9.set_ 3 _).cell 2
                have v1 : (w1.setCell ⟨b, 3, none⟩ (.slice (some ⟨gg, 0, none⟩) (st.dels.length + 1) cap)).cell? ⟨b, 1, none⟩ = some (.int .i64 i) := by rw [← hiH.out]; exact (hB9.set_ 3 _).cell 1
                obtain ⟨hL8, hb8⟩ := delA hB9 hown1 hr9 hgb hnb hz9 hb9'
                refine hK.out _ _ y2 (fun hHeld => ?_)
                clear hK K
                try simp only [Act.put, List.setIfInBounds_toArray, List.set_cons_zero, List.set_cons_succ]
                refine wpAnyH_take (i := 15) (v := ?_) rfl (by kernel_rfl) (by kernel_rfl) (by kernel_rfl) (fun _ _ _ h => h) (Or.inl ⟨by rfl, ?_⟩) hHeld ?_
                rotate_left
                · intro w hSw
                  try dsimp only at hSw
                  go_simp
                  try with_reducible rfl
                simp only [Act.put, List.setIfInBounds_toArray]
                refine wpAnyH_take (i := 16) (v := ?_) rfl (by kernel_rfl) (by kernel_rfl) (by kernel_rfl) (fun _ _ _ h => h) (Or.inl ⟨by rfl, ?_⟩) hHeld ?_
                rotate_left
                · intro w hSw
                  try dsimp only at hSw
                  go_simp
                  try with_reducible rfl
                simp only [Act.put]
                refine wpAnyH_ready (rs := [17]) (by kernel_rfl) (by simp) ?_
                refine AllReadyH.cons rfl (fun K hK => ?_) AllReadyH.nil
                clear hHeld
                go_simp
                refine hK.out _ _ v2 (fun hHeld => ?_)
                clear hK K
                try simp only [Act.put, List.setIfInBounds_toArray, List.set_cons_zero, List.set_cons_succ]
                refine wpAnyH_done (by kernel_rfl) ?_ _
                refine NoPanic.normal ?_
                have hL8H := Lib.hid hL8
                have hb8H := Lib.hid hb8
                clear hL8 hb8 hB9 hown1 hr9 hgrow hb9'
                go_wp2_with (first | (go_at_call 55; rw [hsub.out]; refine (tok_at 1 m hL8H.out hs (by first | exact hpm.out | (rw [del_place]; exact hpm.out)) (by first | exact hlenB.out | (rw [del_toks]; exact hlenB.out))).mono ?_; rintro e w' ⟨rfl, hL9, hb9⟩))
                go_ret2
                rw [hr.out]
                exact ⟨rfl, hL9, hb8H.out.trans hb9⟩
          · have hq2 : (x.toList == [60, 60, 45]) = false := by rw [eq_of_beq hq1]; rfl
            have hdel : Hid (st.del = ⟨st.place, st.toks, st.dels ++ [(st.toks.length, false)]⟩) := Lib.hid (by unfold LS.del; rw [hx.out, hq1]; rfl)
            rw [hdel.out] at hr
            go_wp2_with fail
            go_quiet ((first | (go_at_call 70; exact Calls.quiet_of (digits_q _ _ _ hsz hD))))
            go_wp2_with (first | (go_at_call 71; refine (last_at (hLH.out.drewN _) hlenA.out).mono ?_; rintro e w' ⟨rfl, rfl⟩; rw [hx.out]))
            obtain ⟨W, hWe⟩ : ∃ W, W = w.drewN nq := ⟨_, rfl⟩
            rw [← hWe]
            have hBW : Blk W b 92 (rdC s st.place a0 st.toks.length c0 a1 st.dels.length c1) := by rw [hWe]; exact hBH.out
            have hrW : W.ownsRow n₀ 58 5 (.slice a0 st.toks.length c0) st.toks.length (tv st.toks) := by rw [hWe]; exact hrH.out
            have hdW : W.ownsRow n₀ 101 2 (.slice a1 st.dels.length c1) st.dels.length (dv st.dels) := by rw [hWe]; exact hdH.out
            have hbW : Below n₀ w W := by rw [hWe]; exact ⟨rfl, rfl, rfl, Nat.le_refl _, fun _ _ => rfl⟩
            have hnW : n₀ ≤ W.heap.size := by rw [hWe]; exact hLH.out.size
            have hnb : n₀ ≤ b := hLH.out.base
            clear hWe
            obtain ⟨i0, hi0, hz0, hz1, hz2⟩ := info_parts infoDl
            have hoff := row_off hBW (by decide) hdW
            have hlt9 := hBW.lt
            have x2 : W.drew.cell? ⟨b, 2, none⟩ = some (.slice a0 st.toks.length c0) := hBW.cell 2
            have k3 : W.drew.cell? ⟨b, 3, none⟩ = some (.slice a1 st.dels.length c1) := hBW.cell 3
            have hBW0 := Lib.hid hBW
            have hrW0 := Lib.hid hrW
            have hdW0 := Lib.hid hdW
            have hbW0 := Lib.hid hbW
            clear hBW hrW hdW hbW
            have hbl : b < W.drew.heap.size := hlt9
            have hbl2 : ∀ o, b < (W.drew.alloc o).heap.size := fun o => by rw [World.size_alloc]; omega
            have hW9 : ∀ o, (W.alloc o).drew.heap.size = W.heap.size + 1 := fun o => by show (W.alloc o).heap.size = _; rw [World.size_alloc]
            have z2 : (W.alloc (.cells #[.int .i64 (st.toks.length : Nat), .bool false] 101)).drew.cell? ⟨b, 2, none⟩ = some (.slice a0 st.toks.length c0) := cell_al hbl x2
            have z3 : (W.alloc (.cells #[.int .i64 (st.toks.length : Nat), .bool false] 101)).drew.cell? ⟨b, 3, none⟩ = some (.slice a1 st.dels.length c1) := cell_al hbl k3
            refine wp_region_noPanic ?_
            refine wp_region_held_drew (S := (fun w' => w'.cell? ⟨b, 2, none⟩ = some (.slice a0 st.toks.length c0))) (by kernel_rfl) x2 (fun hHeld => ?_)
            refine wpAnyH_take (i := 0) (v := ?_) rfl (by kernel_rfl) (by kernel_rfl) (by kernel_rfl) (fun _ _ _ h => h) (Or.inl ⟨by rfl, ?_⟩) hHeld ?_
            rotate_left
            · intro w hSw
              try dsimp only at hSw
              go_simp
              try with_reducible rfl
            simp only [Act.put, List.setIfInBounds_toArray]
            refine wpAnyH_take (i := 1) (v := ?_) rfl (by kernel_rfl) (by kernel_rfl) (by kernel_rfl) (fun _ _ _ h => h) (Or.inl ⟨by rfl, ?_⟩) hHeld ?_
            rotate_left
            · intro w hSw
              try dsimp only at hSw
              go_simp
              try with_reducible rfl
            simp only [Act.put]
            refine wpAnyH_take (i := 2) (v := ?_) rfl (by kernel_rfl) (by kernel_rfl) (by kernel_rfl) (fun _ _ _ h => h) (Or.inl ⟨by rfl, ?_⟩) hHeld ?_
            rotate_left
            · intro w hSw
              try dsimp only at hSw
              go_simp
              try with_reducible rfl
            simp only [Act.put]
            refine wpAnyH_take (i := 3) (v := ?_) rfl (by kernel_rfl) (by kernel_rfl) (by kernel_rfl) (fun _ _ _ h => h) (Or.inl ⟨by rfl, ?_⟩) hHeld ?_
            rotate_left
            · intro w hSw
              try dsimp only at hSw
              go_simp
              try with_reducible rfl
            simp only [Act.put]
            refine wpAnyH_take (i := 5) (v := ?_) rfl (by kernel_rfl) (by kernel_rfl) (by kernel_rfl) (fun _ _ _ h => h) (Or.inl ⟨by rfl, ?_⟩) hHeld ?_
            rotate_left
            · intro w hSw
              try dsimp only at hSw
              go_simp
              try with_reducible rfl
            simp only [Act.put]
            refine wpAnyH_take (i := 6) (v := ?_) rfl (by kernel_rfl) (by kernel_rfl) (by kernel_rfl) (fun _ _ _ h => h) (Or.inl ⟨by rfl, ?_⟩) hHeld ?_
            rotate_left
            · intro w hSw
              try dsimp only at hSw
              go_simp
              try with_reducible rfl
            simp only [Act.put]
            refine wpAnyH_take (i := 7) (v := ?_) rfl (by kernel_rfl) (by kernel_rfl) (by kernel_rfl) (fun _ _ _ h => h) (Or.inl ⟨by rfl, ?_⟩) hHeld ?_
            rotate_left
            · intro w hSw
              try dsimp only at hSw
              go_simp
              try with_reducible rfl
            simp only [Act.put]
            refine wpAnyH_take (i := 8) (v := ?_) rfl (by kernel_rfl) (by kernel_rfl) (by kernel_rfl) (fun _ _ _ h => h) (Or.inl ⟨by rfl, ?_⟩) hHeld ?_
            rotate_left
            · intro w hSw
              try dsimp only at hSw
              go_simp
              try with_reducible rfl
            simp only [Act.put]
            refine wpAnyH_take (i := 9) (v := ?_) rfl (by kernel_rfl) (by kernel_rfl) (by kernel_rfl) (fun _ _ _ h => h) (Or.inl ⟨by rfl, ?_⟩) hHeld ?_
            rotate_left
            · intro w hSw
              try dsimp only at hSw
              go_simp
              try with_reducible rfl
            simp only [Act.put]
            refine wpAnyH_take (i := 10) (v := ?_) rfl (by kernel_rfl) (by kernel_rfl) (by kernel_rfl) (fun _ _ _ h => h) (Or.inl ⟨by rfl, ?_⟩) hHeld ?_
            rotate_left
            · intro w hSw
              try dsimp only at hSw
              go_simp
              try with_reducible rfl
            simp only [Act.put]
            refine wpAnyH_take (i := 11) (v := ?_) rfl (by kernel_rfl) (by kernel_rfl) (by kernel_rfl) (fun _ _ _ h => h) (Or.inl ⟨by rfl, ?_⟩) hHeld ?_
            rotate_left
            · intro w hSw
              try dsimp only at hSw
              go_simp
              try with_reducible rfl
            simp only [Act.put]
            refine wpAnyH_take (i := 12) (v := ?_) rfl (by kernel_rfl) (by kernel_rfl) (by kernel_rfl) (fun _ _ _ h => h) (Or.inl ⟨by rfl, ?_⟩) hHeld ?_
            rotate_left
            · intro w hSw
              try dsimp only at hSw
              go_simp
              try with_reducible rfl
            simp only [Act.put]
            refine wpAnyH_ready (rs := [4, 13]) (by kernel_rfl) (by simp) ?_
            refine AllReadyH.cons rfl (fun K hK => ?_) (AllReadyH.cons rfl (fun K hK => ?_) AllReadyH.nil)
            · clear hHeld
              go_simp
              refine hK.out _ _ x2 (fun hHeld => ?_)
              clear hK K
              try simp only [Act.put, List.setIfInBounds_toArray, List.set_cons_zero, List.set_cons_succ]
              refine wpAnyH_ready (rs := [13]) (by kernel_rfl) (by simp) ?_
              refine AllReadyH.cons rfl (fun K hK => ?_) AllReadyH.nil
              clear hHeld
              go_simp
              refine hK.out _ _ z2 (fun hHeld => ?_)
              clear hK K
              try simp only [Act.put, List.setIfInBounds_toArray, List.set_cons_zero, List.set_cons_succ]
              refine wpAnyH_ready (rs := [14]) (by kernel_rfl) (by simp) ?_
              refine AllReadyH.cons (o := { dst := some 124, op := .call { callee := .builtin .append, args := #[.tmp 114, .tmp 123], argTypes := #[90, 90] }, type := 90, pos := "reader.go:82", after := #[{ on := 4, ground := .data }, { on := 13, ground := .data }], guard := none }) rfl (fun K hK => ?_) AllReadyH.nil
              clear hHeld
              refine step_append_lies _ (by rfl) _ _ _ (by rfl) n₀ 101 i0 _ 2 16 Tryz.underlying90 hi0 hz0 hz1 hz2 rfl (by omega) (.slice a1 st.dels.length c1) st.dels.length (dv st.dels) (by rfl) (World.ownsRow.alloc (show World.ownsRow W.drew _ _ _ _ _ _ from hdW0.out) _)
                ⟨W.heap.size, 0, none⟩ 1 1 [.int .i64 (st.toks.length : Nat), .bool false] (by rfl) (by rfl) (World.news_of_block (cs := #[.int .i64 (st.toks.length : Nat), .bool false]) (t := 101) (fr := (0, 0)) (heap_alloc_new W.drew _)) (by simp [Value.oneCell'])
                (by omega) (by unfold maxLen; omega) (by omega) (by rw [hW9]; omega) (W.heap.size + 1) (hW9 _) ?_
              intro gg cap w1 hown1 hgrow hat hlt1
              have y2 := (hgrow.cell_far _ (hbl2 _) hoff).trans z2
              have hB9 : Blk w1 b 92 (rdC s st.place a0 st.toks.length c0 a1 st.dels.length c1) := (hgrow.block b (hbl2 _) hoff).trans ((Below.heap_alloc W.drew _ b hbl).trans hBW0.out)
              have hr9 : w1.ownsRow n₀ 58 5 (.slice a0 st.toks.length c0) st.toks.length (tv st.toks) := row_keep hrW0.out (fun g hg => (hgrow.block g (by rw [hW9]; have := row_lt hrW0.out hg; omega) (row_row (by decide) hrW0.out hdW0.out hg)).trans (Below.heap_alloc W.drew _ g (row_lt hrW0.out hg)))
              have hz9 : n₀ ≤ w1.heap.size := Nat.le_trans (by rw [hW9]; omega) hgrow.size
              have hb9' : Below n₀ w w1 := ⟨hgrow.os.trans hbW0.out.os, hgrow.tape.trans hbW0.out.tape, hgrow.output.trans hbW0.out.output, Nat.le_trans hbW0.out.size (Nat.le_trans (by rw [hW9]; omega) hgrow.size), fun k hk => (hgrow.block k (by rw [hW9]; omega) (fun e => by have := (hdW0.out.lt k e.symm).1; omega)).trans ((Below.heap_alloc W.drew _ k (by show k < W.heap.size; omega)).trans (hbW0.out.block k hk))⟩
              have hgb : b ≠ gg := gg_ne hoff hat (by omega)
              have u3 : w1.frozen? ⟨b, 3, none⟩ = false := hB9.frozen 3
              have u4 : w1.cell? ⟨b, 3, none⟩ = some (.slice a1 st.dels.length c1) := hB9.cell 3
              have v2 : (w1.setCell ⟨b, 3, none⟩ (.slice (some ⟨gg, 0, none⟩) (st.dels.length + 1) cap)).cell? ⟨b, 2, none⟩ = some (.slice a0 st.toks.length c0) := (hB9.set_ 3 _).cell 2
              have v1 : (w1.setCell ⟨b, 3, none⟩ (.slice (some ⟨gg, 0, none⟩) (st.dels.length + 1) cap)).cell? ⟨b, 1, none⟩ = some (.int .i64 i) := by rw [← hiH.out]; exact (hB9.set_ 3 _).cell 1
              obtain ⟨hL8, hb8⟩ := delA hB9 hown1 hr9 hgb hnb hz9 hb9'
              refine hK.out _ _ y2 (fun hHeld => ?_)
              clear hK K
              try simp only [Act.put, List.setIfInBounds_toArray, List.set_cons_zero, List.set_cons_succ]
              refine wpAnyH_take (i := 15) (v := ?_) rfl (by kernel_rfl) (by kernel_rfl) (by kernel_rfl) (fun _ _ _ h => h) (Or.inl ⟨by rfl, ?_⟩) hHeld ?_
              rotate_left
              · intro w hSw
                try dsimp only at hSw
                go_simp
                try with_reducible rfl
              simp only [Act.put, List.setIfInBounds_toArray]
              refine wpAnyH_take (i := 16) (v := ?_) rfl (by kernel_rfl) (by kernel_rfl) (by kernel_rfl) (fun _ _ _ h => h) (Or.inl ⟨by rfl, ?_⟩) hHeld ?_
              rotate_left
              · intro w hSw
                try dsimp only at hSw
                go_simp
                try with_reducible rfl
              simp only [Act.put]
              refine wpAnyH_ready (rs := [17]) (by kernel_rfl) (by simp) ?_
              refine AllReadyH.cons rfl (fun K hK => ?_) AllReadyH.nil
              clear hHeld
              go_simp
              refine hK.out _ _ v2 (fun hHeld => ?_)
              clear hK K
              try simp only [Act.put, List.setIfInBounds_toArray, List.set_cons_zero, List.set_cons_succ]
              refine wpAnyH_done (by kernel_rfl) ?_ _
              refine NoPanic.normal ?_
              have hL8H := Lib.hid hL8
              have hb8H := Lib.hid hb8
              clear hL8 hb8 hB9 hown1 hr9 hgrow hb9'
              go_wp2_with (first | (go_at_call 55; rw [hsub.out]; refine (tok_at 1 m hL8H.out hs (by first | exact hpm.out | (rw [del_place]; exact hpm.out)) (by first | exact hlenB.out | (rw [del_toks]; exact hlenB.out))).mono ?_; rintro e w' ⟨rfl, hL9, hb9⟩))
              go_ret2
              rw [hr.out]
              exact ⟨rfl, hL9, hb8H.out.trans hb9⟩
            · clear hHeld
              go_simp
              refine hK.out _ _ z2 (fun hHeld => ?_)
              clear hK K
              try simp only [Act.put, List.setIfInBounds_toArray, List.set_cons_zero, List.set_cons_succ]
              refine wpAnyH_ready (rs := [4]) (by kernel_rfl) (by simp) ?_
              refine AllReadyH.cons rfl (fun K hK => ?_) AllReadyH.nil
              clear hHeld
              go_simp
              refine hK.out _ _ z2 (fun hHeld => ?_)
              clear hK K
              try simp only [Act.put, List.setIfInBounds_toArray, List.set_cons_zero, List.set_cons_succ]
              refine wpAnyH_ready (rs := [14]) (by kernel_rfl) (by simp) ?_
              refine AllReadyH.cons (o := { dst := some 124, op := .call { callee := .builtin .append, args := #[.tmp 114, .tmp 123], argTypes := #[90, 90] }, type := 90, pos := "reader.go:82", after := #[{ on := 4, ground := .data }, { on := 13, ground := .data }], guard := none }) rfl (fun K hK => ?_) AllReadyH.nil
              clear hHeld
              refine step_append_lies _ (by rfl) _ _ _ (by rfl) n₀ 101 i0 _ 2 16 Tryz.underlying90 hi0 hz0 hz1 hz2 rfl (by omega) (.slice a1 st.dels.length c1) st.dels.length (dv st.dels) (by rfl) (World.ownsRow.alloc (show World.ownsRow W.drew _ _ _ _ _ _ from hdW0.out) _)
                ⟨W.heap.size, 0, none⟩ 1 1 [.int .i64 (st.toks.length : Nat), .bool false] (by rfl) (by rfl) (World.news_of_block (cs := #[.int .i64 (st.toks.length : Nat), .bool false]) (t := 101) (fr := (0, 0)) (heap_alloc_new W.drew _)) (by simp [Value.oneCell'])
                (by omega) (by unfold maxLen; omega) (by omega) (by rw [hW9]; omega) (W.heap.size + 1) (hW9 _) ?_
              intro gg cap w1 hown1 hgrow hat hlt1
              have y2 := (hgrow.cell_far _ (hbl2 _) hoff).trans z2
              have hB9 : Blk w1 b 92 (rdC s st.place a0 st.toks.length c0 a1 st.dels.length c1) := (hgrow.block b (hbl2 _) hoff).trans ((Below.heap_alloc W.drew _ b hbl).trans hBW0.out)
              have hr9 : w1.ownsRow n₀ 58 5 (.slice a0 st.toks.length c0) st.toks.length (tv st.toks) := row_keep hrW0.out (fun g hg => (hgrow.block g (by rw [hW9]; have := row_lt hrW0.out hg; omega) (row_row (by decide) hrW0.out hdW0.out hg)).trans (Below.heap_alloc W.drew _ g (row_lt hrW0.out hg)))
              have hz9 : n₀ ≤ w1.heap.size := Nat.le_trans (by rw [hW9]; omega) hgrow.size
              have hb9' : Below n₀ w w1 := ⟨hgrow.os.trans hbW0.out.os, hgrow.tape.trans hbW0.out.tape, hgrow.output.trans hbW0.out.output, Nat.le_trans hbW0.out.size (Nat.le_trans (by rw [hW9]; omega) hgrow.size), fun k hk => (hgrow.block k (by rw [hW9]; omega) (fun e => by have := (hdW0.out.lt k e.symm).1; omega)).trans ((Below.heap_alloc W.drew _ k (by show k < W.heap.size; omega)).trans (hbW0.out.block k hk))⟩
              have hgb : b ≠ gg := gg_ne hoff hat (by omega)
              have u3 : w1.frozen? ⟨b, 3, none⟩ = false := hB9.frozen 3
              have u4 : w1.cell? ⟨b, 3, none⟩ = some (.slice a1 st.dels.length c1) := hB9.cell 3
              have v2 : (w1.setCell ⟨b, 3, none⟩ (.slice (some ⟨gg, 0, none⟩) (st.dels.length + 1) cap)).cell? ⟨b, 2, none⟩ = some (.slice a0 st.toks.length c0) := (hB9.set_ 3 _).cell 2
              have v1 : (w1.setCell ⟨b, 3, none⟩ (.slice (some ⟨gg, 0, none⟩) (st.dels.length + 1) cap)).cell? ⟨b, 1, none⟩ = some (.int .i64 i) := by rw [← hiH.out]; exact (hB9.set_ 3 _).cell 1
              obtain ⟨hL8, hb8⟩ := delA hB9 hown1 hr9 hgb hnb hz9 hb9'
              refine hK.out _ _ y2 (fun hHeld => ?_)
              clear hK K
              try simp only [Act.put, List.setIfInBounds_toArray, List.set_cons_zero, List.set_cons_succ]
              refine wpAnyH_take (i := 15) (v := ?_) rfl (by kernel_rfl) (by kernel_rfl) (by kernel_rfl) (fun _ _ _ h => h) (Or.inl ⟨by rfl, ?_⟩) hHeld ?_
              rotate_left
              · intro w hSw
                try dsimp only at hSw
                go_simp
                try with_reducible rfl
              simp only [Act.put, List.setIfInBounds_toArray]
              refine wpAnyH_take (i := 16) (v := ?_) rfl (by kernel_rfl) (by kernel_rfl) (by kernel_rfl) (fun _ _ _ h => h) (Or.inl ⟨by rfl, ?_⟩) hHeld ?_
              rotate_left
              · intro w hSw
                try dsimp only at hSw
                go_simp
                try with_reducible rfl
              simp only [Act.put]
              refine wpAnyH_ready (rs := [17]) (by kernel_rfl) (by simp) ?_
              refine AllReadyH.cons rfl (fun K hK => ?_) AllReadyH.nil
              clear hHeld
              go_simp
              refine hK.out _ _ v2 (fun hHeld => ?_)
              clear hK K
              try simp only [Act.put, List.setIfInBounds_toArray, List.set_cons_zero, List.set_cons_succ]
              refine wpAnyH_done (by kernel_rfl) ?_ _
              refine NoPanic.normal ?_
              have hL8H := Lib.hid hL8
              have hb8H := Lib.hid hb8
              clear hL8 hb8 hB9 hown1 hr9 hgrow hb9'
              go_wp2_with (first | (go_at_call 55; rw [hsub.out]; refine (tok_at 1 m hL8H.out hs (by first | exact hpm.out | (rw [del_place]; exact hpm.out)) (by first | exact hlenB.out | (rw [del_toks]; exact hlenB.out))).mono ?_; rintro e w' ⟨rfl, hL9, hb9⟩))
              go_ret2
              rw [hr.out]
              exact ⟨rfl, hL9, hb8H.out.trans hb9⟩
        · have hD := Lib.hid hD0
          clear hD0
          have hred : Hid (redM s (st.place + m) = false) := Lib.hid (by rw [hiH.out]; unfold redM; rw [decide_eq_false hlt]; rfl)
          have hge : ¬ ((i : Int) + (m : Int) < (s.size : Int)) := by omega
          have hge2 : (s.size : Int) ≤ (i : Int) + (m : Int) := by omega
          have hdec : decide ((i : Int) + (m : Int) < (s.size : Int)) = false := decide_eq_false hge
          have hr := Lib.hid (word_word hend.out hbig (by rw [hiH.out, hD.out, ← hiH.out, hred.out]; rfl))
          obtain ⟨x, hx0⟩ : ∃ x, lastM st.toks = x := ⟨_, rfl⟩
          have hx := Lib.hid hx0
          clear hx0
          cases hq1 : (x.toList == [60, 60])
          · cases hq2 : (x.toList == [60, 60, 45])
            · have hdel : Hid (st.del = st) := Lib.hid (by unfold LS.del; rw [hx.out, hq1, hq2]; rfl)
              rw [hdel.out] at hr
              go_wp2_with fail
              go_quiet ((first | (go_at_call 70; exact Calls.quiet_of (digits_q _ _ _ hsz hD))))
              go_wp2_with (first | (go_at_call 71; refine (last_at (hLH.out.drewN _) hlenA.out).mono ?_; rintro e w' ⟨rfl, rfl⟩; rw [hx.out]) | (go_at_call 55; rw [hsub.out]; refine (tok_at 1 m (hLH.out.drewN _) hs (by first | exact hpm.out | (rw [del_place]; exact hpm.out)) (by first | exact hlenB.out | (rw [del_toks]; exact hlenB.out))).mono ?_; rintro e w' ⟨rfl, hL9, hb9⟩))
              go_ret2
              rw [hr.out]
              exact ⟨rfl, hL9, ⟨hb9.os, hb9.tape, hb9.output, hb9.size, hb9.block⟩⟩
            · have hdel : Hid (st.del = ⟨st.place, st.toks, st.dels ++ [(st.toks.length, true)]⟩) := Lib.hid (by unfold LS.del; rw [hx.out, hq1, hq2]; rfl)
              rw [hdel.out] at hr
              go_wp2_with fail
              go_quiet ((first | (go_at_call 70; exact Calls.quiet_of (digits_q _ _ _ hsz hD))))
              go_wp2_with (first | (go_at_call 71; refine (last_at (hLH.out.drewN _) hlenA.out).mono ?_; rintro e w' ⟨rfl, rfl⟩; rw [hx.out]))
              obtain ⟨W, hWe⟩ : ∃ W, W = w.drewN nq := ⟨_, rfl⟩
              rw [← hWe]
              have hBW : Blk W b 92 (rdC s st.place a0 st.toks.length c0 a1 st.dels.length c1) := by rw [hWe]; exact hBH.out
              have hrW : W.ownsRow n₀ 58 5 (.slice a0 st.toks.length c0) st.toks.length (tv st.toks) := by rw [hWe]; exact hrH.out
              have hdW : W.ownsRow n₀ 101 2 (.slice a1 st.dels.length c1) st.dels.length (dv st.dels) := by rw [hWe]; exact hdH.out
              have hbW : Below n₀ w W := by rw [hWe]; exact ⟨rfl, rfl, rfl, Nat.le_refl _, fun _ _ => rfl⟩
              have hnW : n₀ ≤ W.heap.size := by rw [hWe]; exact hLH.out.size
              have hnb : n₀ ≤ b := hLH.out.base
              clear hWe
              obtain ⟨i0, hi0, hz0, hz1, hz2⟩ := info_parts infoDl
              have hoff := row_off hBW (by decide) hdW
              have hlt9 := hBW.lt
              have x2 : W.drew.cell? ⟨b, 2, none⟩ = some (.slice a0 st.toks.length c0) := hBW.cell 2
              have k3 : W.drew.cell? ⟨b, 3, none⟩ = some (.slice a1 st.dels.length c1) := hBW.cell 3
              have hBW0 := Lib.hid hBW
              have hrW0 := Lib.hid hrW
              have hdW0 := Lib.hid hdW
              have hbW0 := Lib.hid hbW
              clear hBW hrW hdW hbW
              have hbl : b < W.drew.heap.size := hlt9
              have hbl2 : ∀ o, b < (W.drew.alloc o).heap.size := fun o => by rw [World.size_alloc]; omega
              have hW9 : ∀ o, (W.alloc o).drew.heap.size = W.heap.size + 1 := fun o => by show (W.alloc o).heap.size = _; rw [World.size_alloc]
              have z2 : (W.alloc (.cells #[.int .i64 (st.toks.length : Nat), .bool true] 101)).drew.cell? ⟨b, 2, none⟩ = some (.slice a0 st.toks.length c0) := cell_al hbl x2
              have z3 : (W.alloc (.cells #[.int .i64 (st.toks.length : Nat), .bool true] 101)).drew.cell? ⟨b, 3, none⟩ = some (.slice a1 st.dels.length c1) := cell_al hbl k3
              refine wp_region_noPanic ?_
              refine wp_region_held_drew (S := (fun w' => w'.cell? ⟨b, 2, none⟩ = some (.slice a0 st.toks.length c0))) (by kernel_rfl) x2 (fun hHeld => ?_)
              refine wpAnyH_take (i := 0) (v := ?_) rfl (by kernel_rfl) (by kernel_rfl) (by kernel_rfl) (fun _ _ _ h => h) (Or.inl ⟨by rfl, ?_⟩) hHeld ?_
              rotate_left
              · intro w hSw
                try dsimp only at hSw
                go_simp
                try with_reducible rfl
              simp only [Act.put, List.setIfInBounds_toArray]
              refine wpAnyH_take (i := 1) (v := ?_) rfl (by kernel_rfl) (by kernel_rfl) (by kernel_rfl) (fun _ _ _ h => h) (Or.inl ⟨by rfl, ?_⟩) hHeld ?_
              rotate_left
              · intro w hSw
                try dsimp only at hSw
                go_simp
                try with_reducible rfl
              simp only [Act.put]
              refine wpAnyH_take (i := 2) (v := ?_) rfl (by kernel_rfl) (by kernel_rfl) (by kernel_rfl) (fun _ _ _ h => h) (Or.inl ⟨by rfl, ?_⟩) hHeld ?_
              rotate_left
              · intro w hSw
                try dsimp only at hSw
                go_simp
                try with_reducible rfl
              simp only [Act.put]
              refine wpAnyH_take (i := 3) (v := ?_) rfl (by kernel_rfl) (by kernel_rfl) (by kernel_rfl) (fun _ _ _ h => h) (Or.inl ⟨by rfl, ?_⟩) hHeld ?_
              rotate_left
              · intro w hSw
                try dsimp only at hSw
                go_simp
                try with_reducible rfl
              simp only [Act.put]
              refine wpAnyH_take (i := 5) (v := ?_) rfl (by kernel_rfl) (by kernel_rfl) (by kernel_rfl) (fun _ _ _ h => h) (Or.inl ⟨by rfl, ?_⟩) hHeld ?_
              rotate_left
              · intro w hSw
                try dsimp only at hSw
                go_simp
                try with_reducible rfl
              simp only [Act.put]
              refine wpAnyH_take (i := 6) (v := ?_) rfl (by kernel_rfl) (by kernel_rfl) (by kernel_rfl) (fun _ _ _ h => h) (Or.inl ⟨by rfl, ?_⟩) hHeld ?_
              rotate_left
              · intro w hSw
                try dsimp only at hSw
                go_simp
                try with_reducible rfl
              simp only [Act.put]
              refine wpAnyH_take (i := 7) (v := ?_) rfl (by kernel_rfl) (by kernel_rfl) (by kernel_rfl) (fun _ _ _ h => h) (Or.inl ⟨by rfl, ?_⟩) hHeld ?_
              rotate_left
              · intro w hSw
                try dsimp only at hSw
                go_simp
                try with_reducible rfl
              simp only [Act.put]
              refine wpAnyH_take (i := 8) (v := ?_) rfl (by kernel_rfl) (by kernel_rfl) (by kernel_rfl) (fun _ _ _ h => h) (Or.inl ⟨by rfl, ?_⟩) hHeld ?_
              rotate_left
              · intro w hSw
                try dsimp only at hSw
                go_simp
                try with_reducible rfl
              simp only [Act.put]
              refine wpAnyH_take (i := 9) (v := ?_) rfl (by kernel_rfl) (by kernel_rfl) (by kernel_rfl) (fun _ _ _ h => h) (Or.inl ⟨by rfl, ?_⟩) hHeld ?_
              rotate_left
              · intro w hSw
                try dsimp only at hSw
                go_simp
                try with_reducible rfl
              simp only [Act.put]
              refine wpAnyH_take (i := 10) (v := ?_) rfl (by kernel_rfl) (by kernel_rfl) (by kernel_rfl) (fun _ _ _ h => h) (Or.inl ⟨by rfl, ?_⟩) hHeld ?_
              rotate_left
              · intro w hSw
                try dsimp only at hSw
                go_simp
                try with_reducible rfl
              simp only [Act.put]
              refine wpAnyH_take (i := 11) (v := ?_) rfl (by kernel_rfl) (by kernel_rfl) (by kernel_rfl) (fun _ _ _ h => h) (Or.inl ⟨by rfl, ?_⟩) hHeld ?_
              rotate_left
              · intro w hSw
                try dsimp only at hSw
                go_simp
                try with_reducible rfl
              simp only [Act.put]
              refine wpAnyH_take (i := 12) (v := ?_) rfl (by kernel_rfl) (by kernel_rfl) (by kernel_rfl) (fun _ _ _ h => h) (Or.inl ⟨by rfl, ?_⟩) hHeld ?_
              rotate_left
              · intro w hSw
                try dsimp only at hSw
                go_simp
                try with_reducible rfl
              simp only [Act.put]
              refine wpAnyH_ready (rs := [4, 13]) (by kernel_rfl) (by simp) ?_
              refine AllReadyH.cons rfl (fun K hK => ?_) (AllReadyH.cons rfl (fun K hK => ?_) AllReadyH.nil)
              · clear hHeld
                go_simp
                refine hK.out _ _ x2 (fun hHeld => ?_)
                clear hK K
                try simp only [Act.put, List.setIfInBounds_toArray, List.set_cons_zero, List.set_cons_succ]
                refine wpAnyH_ready (rs := [13]) (by kernel_rfl) (by simp) ?_
                refine AllReadyH.cons rfl (fun K hK => ?_) AllReadyH.nil
                clear hHeld
                go_simp
                refine hK.out _ _ z2 (fun hHeld => ?_)
                clear hK K
                try simp only [Act.put, List.setIfInBounds_toArray, List.set_cons_zero, List.set_cons_succ]
                refine wpAnyH_ready (rs := [14]) (by kernel_rfl) (by simp) ?_
                refine AllReadyH.cons (o := { dst := some 124, op := .call { callee := .builtin .append, args := #[.tmp 114, .tmp 123], argTypes := #[90, 90] }, type := 90, pos := "reader.go:82", after := #[{ on := 4, ground := .data }, { on := 13, ground := .data }], guard := none }) rfl (fun K hK => ?_) AllReadyH.nil
                clear hHeld
                refine step_append_lies _ (by rfl) _ _ _ (by rfl) n₀ 101 i0 _ 2 16 Tryz.underlying90 hi0 hz0 hz1 hz2 rfl (by omega) (.slice a1 st.dels.length c1) st.dels.length (dv st.dels) (by rfl) (World.ownsRow.alloc (show World.ownsRow W.drew _ _ _ _ _ _ from hdW0.out) _)
                  ⟨W.heap.size, 0, none⟩ 1 1 [.int .i64 (st.toks.length : Nat), .bool true] (by rfl) (by rfl) (World.news_of_block (cs := #[.int .i64 (st.toks.length : Nat), .bool true]) (t := 101) (fr := (0, 0)) (heap_alloc_new W.drew _)) (by simp [Value.oneCell'])
                  (by omega) (by unfold maxLen; omega) (by omega) (by rw [hW9]; omega) (W.heap.size + 1) (hW9 _) ?_
                intro gg cap w1 hown1 hgrow hat hlt1
                have y2 := (hgrow.cell_far _ (hbl2 _) hoff).trans z2
                have hB9 : Blk w1 b 92 (rdC s st.place a0 st.toks.length c0 a1 st.dels.length c1) := (hgrow.block b (hbl2 _) hoff).trans ((Below.heap_alloc W.drew _ b hbl).trans hBW0.out)
                have hr9 : w1.ownsRow n₀ 58 5 (.slice a0 st.toks.length c0) st.toks.length (tv st.toks) := row_keep hrW0.out (fun g hg => (hgrow.block g (by rw [hW9]; have := row_lt hrW0.out hg; omega) (row_row (by decide) hrW0.out hdW0.out hg)).trans (Below.heap_alloc W.drew _ g (row_lt hrW0.out hg)))
                have hz9 : n₀ ≤ w1.heap.size := Nat.le_trans (by rw [hW9]; omega) hgrow.size
                have hb9' : Below n₀ w w1 := ⟨hgrow.os.trans hbW0.out.os, hgrow.tape.trans hbW0.out.tape, hgrow.output.trans hbW0.out.output, Nat.le_trans hbW0.out.size (Nat.le_trans (by rw [hW9]; omega) hgrow.size), fun k hk => (hgrow.block k (by rw [hW9]; omega) (fun e => by have := (hdW0.out.lt k e.symm).1; omega)).trans ((Below.heap_alloc W.drew _ k (by show k < W.heap.size; omega)).trans (hbW0.out.block k hk))⟩
                have hgb : b ≠ gg := gg_ne hoff hat (by omega)
                have u3 : w1.frozen? ⟨b, 3, none⟩ = false := hB9.frozen 3
                have u4 : w1.cell? ⟨b, 3, none⟩ = some (.slice a1 st.dels.length c1) := hB9.cell 3
                have v2 : (w1.setCell ⟨b, 3, none⟩ (.slice (some ⟨gg, 0, none⟩) (st.dels.length + 1) cap)).cell? ⟨b, 2, none⟩ = some (.slice a0 st.toks.length c0) := (hB9.set_ 3 _).cell 2
                have v1 : (w1.setCell ⟨b, 3, none⟩ (.slice (some ⟨gg, 0, none⟩) (st.dels.length + 1) cap)).cell? ⟨b, 1, none⟩ = some (.int .i64 i) := by rw [← hiH.out]; exact (hB9.set_ 3 _).cell 1
                obtain ⟨hL8, hb8⟩ := delA hB9 hown1 hr9 hgb hnb hz9 hb9'
                refine hK.out _ _ y2 (fun hHeld => ?_)
                clear hK K
                try simp only [Act.put, List.setIfInBounds_toArray, List.set_cons_zero, List.set_cons_succ]
                refine wpAnyH_take (i := 15) (v := ?_) rfl (by kernel_rfl) (by kernel_rfl) (by kernel_rfl) (fun _ _ _ h => h) (Or.inl ⟨by rfl, ?_⟩) hHeld ?_
                rotate_left
                · intro w hSw
                  try dsimp only at hSw
                  go_simp
                  try with_reducible rfl
                simp only [Act.put, List.setIfInBounds_toArray]
                refine wpAnyH_take (i := 16) (v := ?_) rfl (by kernel_rfl) (by kernel_rfl) (by kernel_rfl) (fun _ _ _ h => h) (Or.inl ⟨by rfl, ?_⟩) hHeld ?_
                rotate_left
                · intro w hSw
                  try dsimp only at hSw
                  go_simp
                  try with_reducible rfl
                simp only [Act.put]
                refine wpAnyH_ready (rs := [17]) (by kernel_rfl) (by simp) ?_
                refine AllReadyH.cons rfl (fun K hK => ?_) AllReadyH.nil
                clear hHeld
                go_simp
                refine hK.out _ _ v2 (fun hHeld => ?_)
                clear hK K
                try simp only [Act.put, List.setIfInBounds_toArray, List.set_cons_zero, List.set_cons_succ]
                refine wpAnyH_done (by kernel_rfl) ?_ _
                refine NoPanic.normal ?_
                have hL8H := Lib.hid hL8
                have hb8H := Lib.hid hb8
                clear hL8 hb8 hB9 hown1 hr9 hgrow hb9'
                go_wp2_with (first | (go_at_call 55; rw [hsub.out]; refine (tok_at 1 m hL8H.out hs (by first | exact hpm.out | (rw [del_place]; exact hpm.out)) (by first | exact hlenB.out | (rw [del_toks]; exact hlenB.out))).mono ?_; rintro e w' ⟨rfl, hL9, hb9⟩))
                go_ret2
                rw [hr.out]
                exact ⟨rfl, hL9, hb8H.out.trans hb9⟩
              · clear hHeld
                go_simp
                refine hK.out _ _ z2 (fun hHeld => ?_)
                clear hK K
                try simp only [Act.put, List.setIfInBounds_toArray, List.set_cons_zero, List.set_cons_succ]
                refine wpAnyH_ready (rs := [4]) (by kernel_rfl) (by simp) ?_
                refine AllReadyH.cons rfl (fun K hK => ?_) AllReadyH.nil
                clear hHeld
                go_simp
                refine hK.out _ _ z2 (fun hHeld => ?_)
                clear hK K
                try simp only [Act.put, List.setIfInBounds_toArray, List.set_cons_zero, List.set_cons_succ]
                refine wpAnyH_ready (rs := [14]) (by kernel_rfl) (by simp) ?_
                refine AllReadyH.cons (o := { dst := some 124, op := .call { callee := .builtin .append, args := #[.tmp 114, .tmp 123], argTypes := #[90, 90] }, type := 90, pos := "reader.go:82", after := #[{ on := 4, ground := .data }, { on := 13, ground := .data }], guard := none }) rfl (fun K hK => ?_) AllReadyH.nil
                clear hHeld
                refine step_append_lies _ (by rfl) _ _ _ (by rfl) n₀ 101 i0 _ 2 16 Tryz.underlying90 hi0 hz0 hz1 hz2 rfl (by omega) (.slice a1 st.dels.length c1) st.dels.length (dv st.dels) (by rfl) (World.ownsRow.alloc (show World.ownsRow W.drew _ _ _ _ _ _ from hdW0.out) _)
                  ⟨W.heap.size, 0, none⟩ 1 1 [.int .i64 (st.toks.length : Nat), .bool true] (by rfl) (by rfl) (World.news_of_block (cs := #[.int .i64 (st.toks.length : Nat), .bool true]) (t := 101) (fr := (0, 0)) (heap_alloc_new W.drew _)) (by simp [Value.oneCell'])
                  (by omega) (by unfold maxLen; omega) (by omega) (by rw [hW9]; omega) (W.heap.size + 1) (hW9 _) ?_
                intro gg cap w1 hown1 hgrow hat hlt1
                have y2 := (hgrow.cell_far _ (hbl2 _) hoff).trans z2
                have hB9 : Blk w1 b 92 (rdC s st.place a0 st.toks.length c0 a1 st.dels.length c1) := (hgrow.block b (hbl2 _) hoff).trans ((Below.heap_alloc W.drew _ b hbl).trans hBW0.out)
                have hr9 : w1.ownsRow n₀ 58 5 (.slice a0 st.toks.length c0) st.toks.length (tv st.toks) := row_keep hrW0.out (fun g hg => (hgrow.block g (by rw [hW9]; have := row_lt hrW0.out hg; omega) (row_row (by decide) hrW0.out hdW0.out hg)).trans (Below.heap_alloc W.drew _ g (row_lt hrW0.out hg)))
                have hz9 : n₀ ≤ w1.heap.size := Nat.le_trans (by rw [hW9]; omega) hgrow.size
                have hb9' : Below n₀ w w1 := ⟨hgrow.os.trans hbW0.out.os, hgrow.tape.trans hbW0.out.tape, hgrow.output.trans hbW0.out.output, Nat.le_trans hbW0.out.size (Nat.le_trans (by rw [hW9]; omega) hgrow.size), fun k hk => (hgrow.block k (by rw [hW9]; omega) (fun e => by have := (hdW0.out.lt k e.symm).1; omega)).trans ((Below.heap_alloc W.drew _ k (by show k < W.heap.size; omega)).trans (hbW0.out.block k hk))⟩
                have hgb : b ≠ gg := gg_ne hoff hat (by omega)
                have u3 : w1.frozen? ⟨b, 3, none⟩ = false := hB9.frozen 3
                have u4 : w1.cell? ⟨b, 3, none⟩ = some (.slice a1 st.dels.length c1) := hB9.cell 3
                have v2 : (w1.setCell ⟨b, 3, none⟩ (.slice (some ⟨gg, 0, none⟩) (st.dels.length + 1) cap)).cell? ⟨b, 2, none⟩ = some (.slice a0 st.toks.length c0) := (hB9.set_ 3 _).cell 2
                have v1 : (w1.setCell ⟨b, 3, none⟩ (.slice (some ⟨gg, 0, none⟩) (st.dels.length + 1) cap)).cell? ⟨b, 1, none⟩ = some (.int .i64 i) := by rw [← hiH.out]; exact (hB9.set_ 3 _).cell 1
                obtain ⟨hL8, hb8⟩ := delA hB9 hown1 hr9 hgb hnb hz9 hb9'
                refine hK.out _ _ y2 (fun hHeld => ?_)
                clear hK K
                try simp only [Act.put, List.setIfInBounds_toArray, List.set_cons_zero, List.set_cons_succ]
                refine wpAnyH_take (i := 15) (v := ?_) rfl (by kernel_rfl) (by kernel_rfl) (by kernel_rfl) (fun _ _ _ h => h) (Or.inl ⟨by rfl, ?_⟩) hHeld ?_
                rotate_left
                · intro w hSw
                  try dsimp only at hSw
                  go_simp
                  try with_reducible rfl
                simp only [Act.put, List.setIfInBounds_toArray]
                refine wpAnyH_take (i := 16) (v := ?_) rfl (by kernel_rfl) (by kernel_rfl) (by kernel_rfl) (fun _ _ _ h => h) (Or.inl ⟨by rfl, ?_⟩) hHeld ?_
                rotate_left
                · intro w hSw
                  try dsimp only at hSw
                  go_simp
                  try with_reducible rfl
                simp only [Act.put]
                refine wpAnyH_ready (rs := [17]) (by kernel_rfl) (by simp) ?_
                refine AllReadyH.cons rfl (fun K hK => ?_) AllReadyH.nil
                clear hHeld
                go_simp
                refine hK.out _ _ v2 (fun hHeld => ?_)
                clear hK K
                try simp only [Act.put, List.setIfInBounds_toArray, List.set_cons_zero, List.set_cons_succ]
                refine wpAnyH_done (by kernel_rfl) ?_ _
                refine NoPanic.normal ?_
                have hL8H := Lib.hid hL8
                have hb8H := Lib.hid hb8
                clear hL8 hb8 hB9 hown1 hr9 hgrow hb9'
                go_wp2_with (first | (go_at_call 55; rw [hsub.out]; refine (tok_at 1 m hL8H.out hs (by first | exact hpm.out | (rw [del_place]; exact hpm.out)) (by first | exact hlenB.out | (rw [del_toks]; exact hlenB.out))).mono ?_; rintro e w' ⟨rfl, hL9, hb9⟩))
                go_ret2
                rw [hr.out]
                exact ⟨rfl, hL9, hb8H.out.trans hb9⟩
          · have hq2 : (x.toList == [60, 60, 45]) = false := by rw [eq_of_beq hq1]; rfl
            have hdel : Hid (st.del = ⟨st.place, st.toks, st.dels ++ [(st.toks.length, false)]⟩) := Lib.hid (by unfold LS.del; rw [hx.out, hq1]; rfl)
            rw [hdel.out] at hr
            go_wp2_with fail
            go_quiet ((first | (go_at_call 70; exact Calls.quiet_of (digits_q _ _ _ hsz hD))))
            go_wp2_with (first | (go_at_call 71; refine (last_at (hLH.out.drewN _) hlenA.out).mono ?_; rintro e w' ⟨rfl, rfl⟩; rw [hx.out]))
            obtain ⟨W, hWe⟩ : ∃ W, W = w.drewN nq := ⟨_, rfl⟩
            rw [← hWe]
            have hBW : Blk W b 92 (rdC s st.place a0 st.toks.length c0 a1 st.dels.length c1) := by rw [hWe]; exact hBH.out
            have hrW : W.ownsRow n₀ 58 5 (.slice a0 st.toks.length c0) st.toks.length (tv st.toks) := by rw [hWe]; exact hrH.out
            have hdW : W.ownsRow n₀ 101 2 (.slice a1 st.dels.length c1) st.dels.length (dv st.dels) := by rw [hWe]; exact hdH.out
            have hbW : Below n₀ w W := by rw [hWe]; exact ⟨rfl, rfl, rfl, Nat.le_refl _, fun _ _ => rfl⟩
            have hnW : n₀ ≤ W.heap.size := by rw [hWe]; exact hLH.out.size
            have hnb : n₀ ≤ b := hLH.out.base
            clear hWe
            obtain ⟨i0, hi0, hz0, hz1, hz2⟩ := info_parts infoDl
            have hoff := row_off hBW (by decide) hdW
            have hlt9 := hBW.lt
            have x2 : W.drew.cell? ⟨b, 2, none⟩ = some (.slice a0 st.toks.length c0) := hBW.cell 2
            have k3 : W.drew.cell? ⟨b, 3, none⟩ = some (.slice a1 st.dels.length c1) := hBW.cell 3
            have hBW0 := Lib.hid hBW
            have hrW0 := Lib.hid hrW
            have hdW0 := Lib.hid hdW
            have hbW0 := Lib.hid hbW
            clear hBW hrW hdW hbW
            have hbl : b < W.drew.heap.size := hlt9
            have hbl2 : ∀ o, b < (W.drew.alloc o).heap.size := fun o => by rw [World.size_alloc]; omega
            have hW9 : ∀ o, (W.alloc o).drew.heap.size = W.heap.size + 1 := fun o => by show (W.alloc o).heap.size = _; rw [World.size_alloc]
            have z2 : (W.alloc (.cells #[.int .i64 (st.toks.length : Nat), .bool false] 101)).drew.cell? ⟨b, 2, none⟩ = some (.slice a0 st.toks.length c0) := cell_al hbl x2
            have z3 : (W.alloc (.cells #[.int .i64 (st.toks.length : Nat), .bool false] 101)).drew.cell? ⟨b, 3, none⟩ = some (.slice a1 st.dels.length c1) := cell_al hbl k3
            refine wp_region_noPanic ?_
            refine wp_region_held_drew (S := (fun w' => w'.cell? ⟨b, 2, none⟩ = some (.slice a0 st.toks.length c0))) (by kernel_rfl) x2 (fun hHeld => ?_)
            refine wpAnyH_take (i := 0) (v := ?_) rfl (by kernel_rfl) (by kernel_rfl) (by kernel_rfl) (fun _ _ _ h => h) (Or.inl ⟨by rfl, ?_⟩) hHeld ?_
            rotate_left
            · intro w hSw
              try dsimp only at hSw
              go_simp
              try with_reducible rfl
            simp only [Act.put, List.setIfInBounds_toArray]
            refine wpAnyH_take (i := 1) (v := ?_) rfl (by kernel_rfl) (by kernel_rfl) (by kernel_rfl) (fun _ _ _ h => h) (Or.inl ⟨by rfl, ?_⟩) hHeld ?_
            rotate_left
            · intro w hSw
              try dsimp only at hSw
              go_simp
              try with_reducible rfl
            simp only [Act.put]
            refine wpAnyH_take (i := 2) (v := ?_) rfl (by kernel_rfl) (by kernel_rfl) (by kernel_rfl) (fun _ _ _ h => h) (Or.inl ⟨by rfl, ?_⟩) hHeld ?_
            rotate_left
            · intro w hSw
              try dsimp only at hSw
              go_simp
              try with_reducible rfl
            simp only [Act.put]
            refine wpAnyH_take (i := 3) (v := ?_) rfl (by kernel_rfl) (by kernel_rfl) (by kernel_rfl) (fun _ _ _ h => h) (Or.inl ⟨by rfl, ?_⟩) hHeld ?_
            rotate_left
            · intro w hSw
              try dsimp only at hSw
              go_simp
              try with_reducible rfl
            simp only [Act.put]
            refine wpAnyH_take (i := 5) (v := ?_) rfl (by kernel_rfl) (by kernel_rfl) (by kernel_rfl) (fun _ _ _ h => h) (Or.inl ⟨by rfl, ?_⟩) hHeld ?_
            rotate_left
            · intro w hSw
              try dsimp only at hSw
              go_simp
              try with_reducible rfl
            simp only [Act.put]
            refine wpAnyH_take (i := 6) (v := ?_) rfl (by kernel_rfl) (by kernel_rfl) (by kernel_rfl) (fun _ _ _ h => h) (Or.inl ⟨by rfl, ?_⟩) hHeld ?_
            rotate_left
            · intro w hSw
              try dsimp only at hSw
              go_simp
              try with_reducible rfl
            simp only [Act.put]
            refine wpAnyH_take (i := 7) (v := ?_) rfl (by kernel_rfl) (by kernel_rfl) (by kernel_rfl) (fun _ _ _ h => h) (Or.inl ⟨by rfl, ?_⟩) hHeld ?_
            rotate_left
            · intro w hSw
              try dsimp only at hSw
              go_simp
              try with_reducible rfl
            simp only [Act.put]
            refine wpAnyH_take (i := 8) (v := ?_) rfl (by kernel_rfl) (by kernel_rfl) (by kernel_rfl) (fun _ _ _ h => h) (Or.inl ⟨by rfl, ?_⟩) hHeld ?_
            rotate_left
            · intro w hSw
              try dsimp only at hSw
              go_simp
              try with_reducible rfl
            simp only [Act.put]
            refine wpAnyH_take (i := 9) (v := ?_) rfl (by kernel_rfl) (by kernel_rfl) (by kernel_rfl) (fun _ _ _ h => h) (Or.inl ⟨by rfl, ?_⟩) hHeld ?_
            rotate_left
            · intro w hSw
              try dsimp only at hSw
              go_simp
              try with_reducible rfl
            simp only [Act.put]
            refine wpAnyH_take (i := 10) (v := ?_) rfl (by kernel_rfl) (by kernel_rfl) (by kernel_rfl) (fun _ _ _ h => h) (Or.inl ⟨by rfl, ?_⟩) hHeld ?_
            rotate_left
            · intro w hSw
              try dsimp only at hSw
              go_simp
              try with_reducible rfl
            simp only [Act.put]
            refine wpAnyH_take (i := 11) (v := ?_) rfl (by kernel_rfl) (by kernel_rfl) (by kernel_rfl) (fun _ _ _ h => h) (Or.inl ⟨by rfl, ?_⟩) hHeld ?_
            rotate_left
            · intro w hSw
              try dsimp only at hSw
              go_simp
              try with_reducible rfl
            simp only [Act.put]
            refine wpAnyH_take (i := 12) (v := ?_) rfl (by kernel_rfl) (by kernel_rfl) (by kernel_rfl) (fun _ _ _ h => h) (Or.inl ⟨by rfl, ?_⟩) hHeld ?_
            rotate_left
            · intro w hSw
              try dsimp only at hSw
              go_simp
              try with_reducible rfl
            simp only [Act.put]
            refine wpAnyH_ready (rs := [4, 13]) (by kernel_rfl) (by simp) ?_
            refine AllReadyH.cons rfl (fun K hK => ?_) (AllReadyH.cons rfl (fun K hK => ?_) AllReadyH.nil)
            · clear hHeld
              go_simp
              refine hK.out _ _ x2 (fun hHeld => ?_)
              clear hK K
              try simp only [Act.put, List.setIfInBounds_toArray, List.set_cons_zero, List.set_cons_succ]
              refine wpAnyH_ready (rs := [13]) (by kernel_rfl) (by simp) ?_
              refine AllReadyH.cons rfl (fun K hK => ?_) AllReadyH.nil
              clear hHeld
              go_simp
              refine hK.out _ _ z2 (fun hHeld => ?_)
              clear hK K
              try simp only [Act.put, List.setIfInBounds_toArray, List.set_cons_zero, List.set_cons_succ]
              refine wpAnyH_ready (rs := [14]) (by kernel_rfl) (by simp) ?_
              refine AllReadyH.cons (o := { dst := some 124, op := .call { callee := .builtin .append, args := #[.tmp 114, .tmp 123], argTypes := #[90, 90] }, type := 90, pos := "reader.go:82", after := #[{ on := 4, ground := .data }, { on := 13, ground := .data }], guard := none }) rfl (fun K hK => ?_) AllReadyH.nil
              clear hHeld
              refine step_append_lies _ (by rfl) _ _ _ (by rfl) n₀ 101 i0 _ 2 16 Tryz.underlying90 hi0 hz0 hz1 hz2 rfl (by omega) (.slice a1 st.dels.length c1) st.dels.length (dv st.dels) (by rfl) (World.ownsRow.alloc (show World.ownsRow W.drew _ _ _ _ _ _ from hdW0.out) _)
                ⟨W.heap.size, 0, none⟩ 1 1 [.int .i64 (st.toks.length : Nat), .bool false] (by rfl) (by rfl) (World.news_of_block (cs := #[.int .i64 (st.toks.length : Nat), .bool false]) (t := 101) (fr := (0, 0)) (heap_alloc_new W.drew _)) (by simp [Value.oneCell'])
                (by omega) (by unfold maxLen; omega) (by omega) (by rw [hW9]; omega) (W.heap.size + 1) (hW9 _) ?_
              intro gg cap w1 hown1 hgrow hat hlt1
              have y2 := (hgrow.cell_far _ (hbl2 _) hoff).trans z2
              have hB9 : Blk w1 b 92 (rdC s st.place a0 st.toks.length c0 a1 st.dels.length c1) := (hgrow.block b (hbl2 _) hoff).trans ((Below.heap_alloc W.drew _ b hbl).trans hBW0.out)
              have hr9 : w1.ownsRow n₀ 58 5 (.slice a0 st.toks.length c0) st.toks.length (tv st.toks) := row_keep hrW0.out (fun g hg => (hgrow.block g (by rw [hW9]; have := row_lt hrW0.out hg; omega) (row_row (by decide) hrW0.out hdW0.out hg)).trans (Below.heap_alloc W.drew _ g (row_lt hrW0.out hg)))
              have hz9 : n₀ ≤ w1.heap.size := Nat.le_trans (by rw [hW9]; omega) hgrow.size
              have hb9' : Below n₀ w w1 := ⟨hgrow.os.trans hbW0.out.os, hgrow.tape.trans hbW0.out.tape, hgrow.output.trans hbW0.out.output, Nat.le_trans hbW0.out.size (Nat.le_trans (by rw [hW9]; omega) hgrow.size), fun k hk => (hgrow.block k (by rw [hW9]; omega) (fun e => by have := (hdW0.out.lt k e.symm).1; omega)).trans ((Below.heap_alloc W.drew _ k (by show k < W.heap.size; omega)).trans (hbW0.out.block k hk))⟩
              have hgb : b ≠ gg := gg_ne hoff hat (by omega)
              have u3 : w1.frozen? ⟨b, 3, none⟩ = false := hB9.frozen 3
              have u4 : w1.cell? ⟨b, 3, none⟩ = some (.slice a1 st.dels.length c1) := hB9.cell 3
              have v2 : (w1.setCell ⟨b, 3, none⟩ (.slice (some ⟨gg, 0, none⟩) (st.dels.length + 1) cap)).cell? ⟨b, 2, none⟩ = some (.slice a0 st.toks.length c0) := (hB9.set_ 3 _).cell 2
              have v1 : (w1.setCell ⟨b, 3, none⟩ (.slice (some ⟨gg, 0, none⟩) (st.dels.length + 1) cap)).cell? ⟨b, 1, none⟩ = some (.int .i64 i) := by rw [← hiH.out]; exact (hB9.set_ 3 _).cell 1
              obtain ⟨hL8, hb8⟩ := delA hB9 hown1 hr9 hgb hnb hz9 hb9'
              refine hK.out _ _ y2 (fun hHeld => ?_)
              clear hK K
              try simp only [Act.put, List.setIfInBounds_toArray, List.set_cons_zero, List.set_cons_succ]
              refine wpAnyH_take (i := 15) (v := ?_) rfl (by kernel_rfl) (by kernel_rfl) (by kernel_rfl) (fun _ _ _ h => h) (Or.inl ⟨by rfl, ?_⟩) hHeld ?_
              rotate_left
              · intro w hSw
                try dsimp only at hSw
                go_simp
                try with_reducible rfl
              simp only [Act.put, List.setIfInBounds_toArray]
              refine wpAnyH_take (i := 16) (v := ?_) rfl (by kernel_rfl) (by kernel_rfl) (by kernel_rfl) (fun _ _ _ h => h) (Or.inl ⟨by rfl, ?_⟩) hHeld ?_
              rotate_left
              · intro w hSw
                try dsimp only at hSw
                go_simp
                try with_reducible rfl
              simp only [Act.put]
              refine wpAnyH_ready (rs := [17]) (by kernel_rfl) (by simp) ?_
              refine AllReadyH.cons rfl (fun K hK => ?_) AllReadyH.nil
              clear hHeld
              go_simp
              refine hK.out _ _ v2 (fun hHeld => ?_)
              clear hK K
              try simp only [Act.put, List.setIfInBounds_toArray, List.set_cons_zero, List.set_cons_succ]
              refine wpAnyH_done (by kernel_rfl) ?_ _
              refine NoPanic.normal ?_
              have hL8H := Lib.hid hL8
              have hb8H := Lib.hid hb8
              clear hL8 hb8 hB9 hown1 hr9 hgrow hb9'
              go_wp2_with (first | (go_at_call 55; rw [hsub.out]; refine (tok_at 1 m hL8H.out hs (by first | exact hpm.out | (rw [del_place]; exact hpm.out)) (by first | exact hlenB.out | (rw [del_toks]; exact hlenB.out))).mono ?_; rintro e w' ⟨rfl, hL9, hb9⟩))
              go_ret2
              rw [hr.out]
              exact ⟨rfl, hL9, hb8H.out.trans hb9⟩
            · clear hHeld
              go_simp
              refine hK.out _ _ z2 (fun hHeld => ?_)
              clear hK K
              try simp only [Act.put, List.setIfInBounds_toArray, List.set_cons_zero, List.set_cons_succ]
              refine wpAnyH_ready (rs := [4]) (by kernel_rfl) (by simp) ?_
              refine AllReadyH.cons rfl (fun K hK => ?_) AllReadyH.nil
              clear hHeld
              go_simp
              refine hK.out _ _ z2 (fun hHeld => ?_)
              clear hK K
              try simp only [Act.put, List.setIfInBounds_toArray, List.set_cons_zero, List.set_cons_succ]
              refine wpAnyH_ready (rs := [14]) (by kernel_rfl) (by simp) ?_
              refine AllReadyH.cons (o := { dst := some 124, op := .call { callee := .builtin .append, args := #[.tmp 114, .tmp 123], argTypes := #[90, 90] }, type := 90, pos := "reader.go:82", after := #[{ on := 4, ground := .data }, { on := 13, ground := .data }], guard := none }) rfl (fun K hK => ?_) AllReadyH.nil
              clear hHeld
              refine step_append_lies _ (by rfl) _ _ _ (by rfl) n₀ 101 i0 _ 2 16 Tryz.underlying90 hi0 hz0 hz1 hz2 rfl (by omega) (.slice a1 st.dels.length c1) st.dels.length (dv st.dels) (by rfl) (World.ownsRow.alloc (show World.ownsRow W.drew _ _ _ _ _ _ from hdW0.out) _)
                ⟨W.heap.size, 0, none⟩ 1 1 [.int .i64 (st.toks.length : Nat), .bool false] (by rfl) (by rfl) (World.news_of_block (cs := #[.int .i64 (st.toks.length : Nat), .bool false]) (t := 101) (fr := (0, 0)) (heap_alloc_new W.drew _)) (by simp [Value.oneCell'])
                (by omega) (by unfold maxLen; omega) (by omega) (by rw [hW9]; omega) (W.heap.size + 1) (hW9 _) ?_
              intro gg cap w1 hown1 hgrow hat hlt1
              have y2 := (hgrow.cell_far _ (hbl2 _) hoff).trans z2
              have hB9 : Blk w1 b 92 (rdC s st.place a0 st.toks.length c0 a1 st.dels.length c1) := (hgrow.block b (hbl2 _) hoff).trans ((Below.heap_alloc W.drew _ b hbl).trans hBW0.out)
              have hr9 : w1.ownsRow n₀ 58 5 (.slice a0 st.toks.length c0) st.toks.length (tv st.toks) := row_keep hrW0.out (fun g hg => (hgrow.block g (by rw [hW9]; have := row_lt hrW0.out hg; omega) (row_row (by decide) hrW0.out hdW0.out hg)).trans (Below.heap_alloc W.drew _ g (row_lt hrW0.out hg)))
              have hz9 : n₀ ≤ w1.heap.size := Nat.le_trans (by rw [hW9]; omega) hgrow.size
              have hb9' : Below n₀ w w1 := ⟨hgrow.os.trans hbW0.out.os, hgrow.tape.trans hbW0.out.tape, hgrow.output.trans hbW0.out.output, Nat.le_trans hbW0.out.size (Nat.le_trans (by rw [hW9]; omega) hgrow.size), fun k hk => (hgrow.block k (by rw [hW9]; omega) (fun e => by have := (hdW0.out.lt k e.symm).1; omega)).trans ((Below.heap_alloc W.drew _ k (by show k < W.heap.size; omega)).trans (hbW0.out.block k hk))⟩
              have hgb : b ≠ gg := gg_ne hoff hat (by omega)
              have u3 : w1.frozen? ⟨b, 3, none⟩ = false := hB9.frozen 3
              have u4 : w1.cell? ⟨b, 3, none⟩ = some (.slice a1 st.dels.length c1) := hB9.cell 3
              have v2 : (w1.setCell ⟨b, 3, none⟩ (.slice (some ⟨gg, 0, none⟩) (st.dels.length + 1) cap)).cell? ⟨b, 2, none⟩ = some (.slice a0 st.toks.length c0) := (hB9.set_ 3 _).cell 2
              have v1 : (w1.setCell ⟨b, 3, none⟩ (.slice (some ⟨gg, 0, none⟩) (st.dels.length + 1) cap)).cell? ⟨b, 1, none⟩ = some (.int .i64 i) := by rw [← hiH.out]; exact (hB9.set_ 3 _).cell 1
              obtain ⟨hL8, hb8⟩ := delA hB9 hown1 hr9 hgb hnb hz9 hb9'
              refine hK.out _ _ y2 (fun hHeld => ?_)
              clear hK K
              try simp only [Act.put, List.setIfInBounds_toArray, List.set_cons_zero, List.set_cons_succ]
              refine wpAnyH_take (i := 15) (v := ?_) rfl (by kernel_rfl) (by kernel_rfl) (by kernel_rfl) (fun _ _ _ h => h) (Or.inl ⟨by rfl, ?_⟩) hHeld ?_
              rotate_left
              · intro w hSw
                try dsimp only at hSw
                go_simp
                try with_reducible rfl
              simp only [Act.put, List.setIfInBounds_toArray]
              refine wpAnyH_take (i := 16) (v := ?_) rfl (by kernel_rfl) (by kernel_rfl) (by kernel_rfl) (fun _ _ _ h => h) (Or.inl ⟨by rfl, ?_⟩) hHeld ?_
              rotate_left
              · intro w hSw
                try dsimp only at hSw
                go_simp
                try with_reducible rfl
              simp only [Act.put]
              refine wpAnyH_ready (rs := [17]) (by kernel_rfl) (by simp) ?_
              refine AllReadyH.cons rfl (fun K hK => ?_) AllReadyH.nil
              clear hHeld
              go_simp
              refine hK.out _ _ v2 (fun hHeld => ?_)
              clear hK K
              try simp only [Act.put, List.setIfInBounds_toArray, List.set_cons_zero, List.set_cons_succ]
              refine wpAnyH_done (by kernel_rfl) ?_ _
              refine NoPanic.normal ?_
              have hL8H := Lib.hid hL8
              have hb8H := Lib.hid hb8
              clear hL8 hb8 hB9 hown1 hr9 hgrow hb9'
              go_wp2_with (first | (go_at_call 55; rw [hsub.out]; refine (tok_at 1 m hL8H.out hs (by first | exact hpm.out | (rw [del_place]; exact hpm.out)) (by first | exact hlenB.out | (rw [del_toks]; exact hlenB.out))).mono ?_; rintro e w' ⟨rfl, hL9, hb9⟩))
              go_ret2
              rw [hr.out]
              exact ⟨rfl, hL9, hb8H.out.trans hb9⟩
end Go.Proofs.YtnhbcmhinhncfaaGreatDoor
