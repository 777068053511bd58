/- A line is read. No condition. -/
import Derived.Test.YtnhbcmhinhncfaaGreatDoorLxH
namespace Go.Proofs.YtnhbcmhinhncfaaGreatDoor
open Go.RowKit Go.PlainAid
attribute [local go_sem] Oper.semAt_some

/-- The reader's place, off the memory. -/
def plc (b : Nat) (w : World) : Nat := (intOf ((w.cell? ⟨b, 1, none⟩).getD .nilIface)).toNat
section
variable {w : World} {b n₀ : Nat} {s : ByteArray} {st : LS}
theorem LAt.cell0 (h : LAt w b n₀ s st) : w.cell? ⟨b, 0, none⟩ = some (.string s) := by
  obtain ⟨a0, c0, a1, c1, hB, hr, hd⟩ := h.ex
  exact hB.cell 0
theorem LAt.cell1 (h : LAt w b n₀ s st) : w.cell? ⟨b, 1, none⟩ = some (.int .i64 st.place) := by
  obtain ⟨a0, c0, a1, c1, hB, hr, hd⟩ := h.ex
  exact hB.cell 1
theorem LAt.froz (h : LAt w b n₀ s st) (j : Nat) : w.frozen? ⟨b, j, none⟩ = false := by
  obtain ⟨a0, c0, a1, c1, hB, hr, hd⟩ := h.ex
  exact hB.frozen j
theorem plc_at (h : LAt w b n₀ s st) : plc b w = st.place := by unfold plc; rw [h.cell1]; simp [intOf]
theorem LAt.to (h : LAt w b n₀ s st) (j : Nat) : LAt (w.setCell ⟨b, 1, none⟩ (.int .i64 j)) b n₀ s ⟨j, st.toks, st.dels⟩ := by
  obtain ⟨a0, c0, a1, c1, hB, hr, hd⟩ := h.ex
  exact ⟨⟨a0, c0, a1, c1, hB.set_ 1 _, row_keep hr (fun g (hg : Value.ownBlock (.slice a0 st.toks.length c0) = some g) => Below.heap_setCell _ _ _ _ (fun e => row_off hB (by decide) hr (by rw [hg, e]))), row_keep hd (fun g (hg : Value.ownBlock (.slice a1 st.dels.length c1) = some g) => Below.heap_setCell _ _ _ _ (fun e => row_off hB (by decide) hd (by rw [hg, e])))⟩, h.base, by simpa using h.size⟩
end

theorem rem_gt {s : ByteArray} {i : Nat} (h : i < s.size) (h1 : (bt s i == 35) = true) : i < remN s i ∧ remN s i ≤ s.size := by
  unfold remN
  split
  · rename_i h0
    have hlt := lnM_lt h0
    refine ⟨?_, by omega⟩
    rcases Nat.eq_zero_or_pos (lnM s i).toNat with e | e
    · exfalso
      have h2 := (Lib.indexByte_some (l := (s.extract i s.size).data.toList) (c := 10) (o := (lnM s i).toNat) (by show lnM s i = _; omega)).1
      rw [e] at h2
      have h3 := first_byte h
      have h4 : ((s.extract i s.size).extract 0 1).data.toList[0]? = some 10 := by
        rw [Lib.extract_data]
        simp only [List.drop_zero]
        rw [List.getElem?_take]
        simpa using h2
      rw [h3] at h4
      have h5 : b9 s i = 10 := by simpa using h4
      have hbt : bt s i = ((b9 s i).toNat : Int) := by unfold bt b9; rw [dif_pos h, dif_pos h]
      rw [hbt, h5] at h1
      exact absurd h1 (by decide)
    · omega
  · exact ⟨h, Nat.le_refl _⟩
theorem pfx_q (t : ByteArray) (v : Bool) (w : World) (h : Hid (Lib.hasPrefix t.data.toList [92, 10] = v)) : Calls Tryz.prog 53 #[.string t, .string ⟨#[92, 10]⟩] w fun e w' => e = .returned (.bool v) ∧ ∃ m, w' = w.drewN m :=
  (Tryz.strings_HasPrefix _ _ _).mono (by rintro e w' ⟨rfl, rfl⟩; exact ⟨congrArg (fun x => Ending.returned (Value.bool x)) h.out, 0, rfl⟩)
theorem oper_q (t : ByteArray) (n : Nat) (w : World) (hs : t.size ≤ 100000) (h : Hid (opN t = n)) : Calls Tryz.prog 56 #[.string t] w fun e w' => e = .returned (.int .i64 n) ∧ ∃ m, w' = w.drewN m :=
  (operator_any t w hs).mono (by rintro e w' ⟨rfl, rfl⟩; rw [h.out]; exact ⟨rfl, 0, rfl⟩)
theorem quiet_of2 {P : Program} {f : FuncId} {args : Array Value} {w : World} {k n : Nat} {v : Value} (h : Calls P f args (w.drewN (k + n)) fun e w' => e = .returned v ∧ ∃ m, w' = (w.drewN (k + n)).drewN m) : Calls P f args (w.drewN (k + n)) fun e w'' => e = .returned v ∧ ∃ m, w'' = w.drewN (k + m) :=
  h.mono fun _ _ ⟨he, m, hm⟩ => ⟨he, n + m, by rw [hm, World.drewN_drewN, Nat.add_assoc]⟩
theorem below_drew {n₀ : Nat} {w w1 : World} (h : Below n₀ w w1) (n : Nat) : Below n₀ w (w1.drewN n) := ⟨h.os, h.tape, h.output, h.size, h.block⟩

set_option maxRecDepth 100000 in
set_option maxHeartbeats 4000000 in
theorem line_any {w : World} {b n₀ : Nat} {s : ByteArray} {st : LS} (h : LAt w b n₀ s st) (hs : s.size ≤ 65536) (hp : st.place ≤ s.size) (ht : st.toks.length ≤ st.place) (hd : st.dels.length ≤ st.toks.length) :
    Calls Tryz.prog 42 #[.pointer (some ⟨b, 0, none⟩)] w fun e w' => e = .returned (.tuple #[.int .i64 (lineM s s.size st).1, .int .i64 (lineM s s.size st).2.1]) ∧ LAt w' b n₀ s (lineM s s.size st).2.2 ∧ Below n₀ w w' := by
  have hbt := get_bt s
  have hnb := h.base
  have hLH := Lib.hid h
  clear h
  go_enter Tryz.func42, Tryz.ntmps42
  go_wp2
  go_step3
  go_wp2
  go_step3
  go_wp2
  go_loopw [2] (fun v wr => ∃ (i f : Nat) (ts : List Tk) (ds : List (Nat × Bool)), i ≤ s.size ∧ ts.length ≤ i ∧ ds.length ≤ ts.length ∧ s.size ≤ i + f ∧ v = .int .i64 0 ∧ Hid (lineM s s.size st = lineM s f ⟨i, ts, ds⟩) ∧ Hid (LAt wr b n₀ s ⟨i, ts, ds⟩) ∧ Hid (Below n₀ w wr)) (fun _ wr => s.size - plc b wr)
  case atStart => exact ⟨st.place, s.size, st.toks, st.dels, hp, ht, hd, by omega, by go_num, Lib.hid rfl, hLH, Lib.hid (Below.refl _ _)⟩
  case round =>
    obtain ⟨i, f, ts, ds, hi, hts, hds, hf, rfl, hm, hL, hbel⟩ := hrel
    have x0 : wr.cell? ⟨b, 0, none⟩ = some (.string s) := hL.out.cell0
    have x1 : wr.cell? ⟨b, 1, none⟩ = some (.int .i64 i) := hL.out.cell1
    have f1 : wr.frozen? ⟨b, 1, none⟩ = false := hL.out.froz 1
    by_cases hlt : i < s.size
    · obtain ⟨f, rfl⟩ : ∃ g, f = g + 1 := ⟨f - 1, by omega⟩
      cases h32 : (bt s i == 32)
      · cases h9 : (bt s i == 9)
        · have hbl : (bt s i == 32 || bt s i == 9) = false := by rw [h32, h9]; rfl
          have hblH := Lib.hid hbl
          have hpos : (i : Int) ≤ (s.size : Int) := by omega
          have hsz : (s.extract i s.size).size ≤ 100000 := by rw [ByteArray.size_extract]; omega
          clear hbl
          cases hc : contM s i
          · have hpx : Hid (Lib.hasPrefix (s.extract i s.size).data.toList [92, 10] = false) := Lib.hid hc
            have hcH := Lib.hid hc
            clear hc
            cases h35 : (bt s i == 35)
            · cases h10 : (bt s i == 10)
              · obtain ⟨n, hn⟩ : ∃ n, opN (s.extract i s.size) = n := ⟨_, rfl⟩
                have hop := Lib.hid hn
                have hnle := opN_le (s.extract i s.size)
                rw [hn, ByteArray.size_extract] at hnle
                by_cases h0 : 0 < n
                · have hnext := Lib.hid (hm.out.trans (line_op (st := ⟨i, ts, ds⟩) hlt hblH.out hcH.out h35 h10 (by show 0 < opN (s.extract i s.size); rw [hn]; exact h0)))
                  rw [show opN (s.extract (LS.place ⟨i, ts, ds⟩) s.size) = n from hn] at hnext
                  clear hn
                  have hlen : ts.length < 100000 := by omega
                  have hin : i + n ≤ s.size := by omega
                  go_wp2_with fail
                  go_quiet (fail)
                  go_wp2_with fail
                  go_quiet (fail)
                  go_wp2_with fail
                  go_quiet ((first | (go_at_call 53; exact quiet_of2 (pfx_q _ _ _ hpx)) | (go_at_call 56; exact quiet_of2 (oper_q _ _ _ hsz hop))))
                  go_wp2_with fail
                  go_quiet ((first | (go_at_call 53; exact quiet_of2 (pfx_q _ _ _ hpx)) | (go_at_call 56; exact quiet_of2 (oper_q _ _ _ hsz hop))))
                  go_wp2_with (go_at_call 55; refine (tok_at (st := ⟨i, ts, ds⟩) 2 n (hL.out.drewN _) (by omega) hin hlen).mono ?_; rintro e w5 ⟨rfl, hL5, hb5⟩; have hL5H := Lib.hid hL5; have hb5H := Lib.hid ((below_drew hbel.out _).trans hb5); clear hL5 hb5)
                  go_roundw
                  case rel => exact ⟨i + n, f, _, ds, by omega, by simp; omega, by simp; omega, by omega, rfl, hnext, hL5H, hb5H⟩
                  case measure => rw [plc_at hL.out, plc_at hL5H.out]; show s.size - (i + n) < s.size - i; omega
                · have hw0 : ¬ 0 < opN (s.extract i s.size) := by rw [hn]; exact h0
                  have hends := Lib.hid (ends_of hlt hblH.out h10 hw0)
                  obtain rfl : n = 0 := by omega
                  obtain ⟨⟨pl, er, st2⟩, hw⟩ : ∃ r, wordM s ⟨i, ts, ds⟩ = r := ⟨_, rfl⟩
                  have hwc := Lib.hid (fun w (h : LAt w b n₀ s ⟨i, ts, ds⟩) => word_any h (by omega) hi (by show ts.length < 100000; omega) (by show ds.length < 100000; omega))
                  rw [hw] at hwc
                  by_cases he : er = 0
                  · have hnext := Lib.hid (hm.out.trans (line_word (st := ⟨i, ts, ds⟩) hlt hblH.out hcH.out h35 h10 hw0 (by rw [hw]; exact he)))
                    have hmv := word_moves (st := ⟨i, ts, ds⟩) hlt hends.out (by rw [hw]; exact he)
                    rw [hw] at hnext hmv
                    have hE := eq_err he
                    obtain ⟨i2, ts2, ds2⟩ := st2
                    obtain ⟨m1, m2, m3, m4⟩ := hmv
                    have m1' : i < i2 := m1
                    have m2' : i2 ≤ s.size := m2
                    have m3' : ts2.length = ts.length + 1 := m3
                    have m4' : ds2.length ≤ ds.length + 1 := m4
                    clear he hw hw0 hn m1 m2 m3 m4
                    go_wp2_with fail
                    go_quiet (fail)
                    go_wp2_with fail
                    go_quiet (fail)
                    go_wp2_with fail
                    go_quiet ((first | (go_at_call 53; exact quiet_of2 (pfx_q _ _ _ hpx)) | (go_at_call 56; exact quiet_of2 (oper_q _ _ _ hsz hop))))
                    go_wp2_with fail
                    go_quiet ((first | (go_at_call 53; exact quiet_of2 (pfx_q _ _ _ hpx)) | (go_at_call 56; exact quiet_of2 (oper_q _ _ _ hsz hop))))
                    go_wp2_with (go_at_call 57; refine (hwc.out _ (hL.out.drewN _)).mono ?_; rintro e w5 ⟨rfl, hL5, hb5⟩; have hL5H := Lib.hid hL5; have hb5H := Lib.hid ((below_drew hbel.out _).trans hb5); clear hL5 hb5)
                    go_roundw
                    case rel => exact ⟨i2, f, ts2, ds2, by omega, by omega, by omega, by omega, rfl, hnext, hL5H, hb5H⟩
                    case measure => rw [plc_at hL.out, plc_at hL5H.out]; show s.size - i2 < s.size - i; omega
                  · have hres := Lib.hid (hm.out.trans (line_bad (st := ⟨i, ts, ds⟩) hlt hblH.out hcH.out h35 h10 hw0 (by rw [hw]; exact he)))
                    rw [hw] at hres
                    have hE := ne_err he
                    clear he hw hw0 hn
                    go_wp2_with fail
                    go_quiet (fail)
                    go_wp2_with fail
                    go_quiet (fail)
                    go_wp2_with fail
                    go_quiet ((first | (go_at_call 53; exact quiet_of2 (pfx_q _ _ _ hpx)) | (go_at_call 56; exact quiet_of2 (oper_q _ _ _ hsz hop))))
                    go_wp2_with fail
                    go_quiet ((first | (go_at_call 53; exact quiet_of2 (pfx_q _ _ _ hpx)) | (go_at_call 56; exact quiet_of2 (oper_q _ _ _ hsz hop))))
                    go_wp2_with (go_at_call 57; refine (hwc.out _ (hL.out.drewN _)).mono ?_; rintro e w5 ⟨rfl, hL5, hb5⟩; have hL5H := Lib.hid hL5; have hb5H := Lib.hid ((below_drew hbel.out _).trans hb5); clear hL5 hb5)
                    rw [Exit.noGoto_ret]
                    go_ret2
                    rw [hres.out]
                    exact ⟨rfl, hL5H.out, hb5H.out⟩
              · have hres := Lib.hid (hm.out.trans (line_nl (st := ⟨i, ts, ds⟩) hlt hblH.out hcH.out h35 h10))
                have hlen : ts.length < 100000 := by omega
                have hop : Hid (opN s = opN s) := Lib.hid rfl
                go_wp2_with fail
                go_quiet (fail)
                go_wp2_with fail
                go_quiet (fail)
                go_wp2_with fail
                go_quiet ((first | (go_at_call 53; exact quiet_of2 (pfx_q _ _ _ hpx)) | (go_at_call 56; exact quiet_of2 (oper_q _ _ _ hsz hop))))
                go_wp2_with (go_at_call 55; refine (tok_at (st := ⟨i, ts, ds⟩) 3 1 (hL.out.drewN _) (by omega) hlt hlen).mono ?_; rintro e w5 ⟨rfl, hL5, hb5⟩; have hL5H := Lib.hid hL5; have hb5H := Lib.hid ((below_drew hbel.out _).trans hb5); clear hL5 hb5)
                rw [Exit.noGoto_ret]
                go_ret2
                rw [hres.out]
                exact ⟨rfl, hL5H.out, hb5H.out⟩
            · have hnext := Lib.hid (hm.out.trans (line_rem (st := ⟨i, ts, ds⟩) hlt hblH.out hcH.out h35))
              obtain ⟨g1, g2⟩ := rem_gt hlt h35
              obtain ⟨r, hr⟩ : ∃ r, remN s i = r := ⟨_, rfl⟩
              rw [show remN s (LS.place ⟨i, ts, ds⟩) = r from hr] at hnext
              rw [hr] at g1 g2
              have hrH := Lib.hid hr
              clear hr
              have hop : Hid (opN s = opN s) := Lib.hid rfl
              go_wp2_with fail
              go_quiet (fail)
              go_wp2_with fail
              go_quiet (fail)
              go_wp2_with fail
              go_quiet ((first | (go_at_call 53; exact quiet_of2 (pfx_q _ _ _ hpx)) | (go_at_call 56; exact quiet_of2 (oper_q _ _ _ hsz hop))))
              go_wp2_with (go_at_call 54; refine (rem_at (st := ⟨i, ts, ds⟩) (hL.out.drewN _) (by omega) hi).mono ?_; rintro e w5 ⟨rfl, hL5, hb5⟩; have hL5H := Lib.hid hL5; have hb5H := Lib.hid ((below_drew hbel.out _).trans hb5); clear hL5 hb5)
              rw [show remN s (LS.place ⟨i, ts, ds⟩) = r from hrH.out] at hL5H
              go_roundw
              case rel => exact ⟨r, f, ts, ds, by omega, by omega, by omega, by omega, rfl, hnext, hL5H, hb5H⟩
              case measure => rw [plc_at hL.out, plc_at hL5H.out]; show s.size - r < s.size - i; omega
          · have hnext := Lib.hid (hm.out.trans (line_cont (st := ⟨i, ts, ds⟩) hlt hblH.out hc))
            have hi2 := cont_lt hi hc
            have hpx : Hid (Lib.hasPrefix (s.extract i s.size).data.toList [92, 10] = true) := Lib.hid hc
            have hop : Hid (opN s = opN s) := Lib.hid rfl
            clear hc
            go_wp2_with fail
            go_quiet (fail)
            go_wp2_with fail
            go_quiet (fail)
            go_wp2_with fail
            go_quiet ((first | (go_at_call 53; exact quiet_of2 (pfx_q _ _ _ hpx)) | (go_at_call 56; exact quiet_of2 (oper_q _ _ _ hsz hop))))
            go_wp2
            go_roundw
            case rel => exact ⟨i + 2, f, ts, ds, by omega, by omega, hds, by omega, rfl, hnext, Lib.hid ((hL.out.drewN _).to (i + 2)), Lib.hid ((below_drew hbel.out _).setCell hnb _)⟩
            case measure => rw [plc_at hL.out, show (i : Int) + 2 = ((i + 2 : Nat) : Int) from rfl, plc_at ((hL.out.drewN _).to (i + 2))]; show s.size - (i + 2) < s.size - i; omega
        · have hnext := Lib.hid (hm.out.trans (line_blank (st := ⟨i, ts, ds⟩) hlt (by show (bt s i == 32 || bt s i == 9) = true; rw [h32, h9]; rfl)))
          go_wp2_with fail
          go_quiet (fail)
          go_wp2_with fail
          go_quiet (fail)
          go_wp2
          go_roundw
          case rel => exact ⟨i + 1, f, ts, ds, by omega, by omega, hds, by omega, rfl, hnext, Lib.hid ((hL.out.drewN _).to (i + 1)), Lib.hid ((below_drew hbel.out _).setCell hnb _)⟩
          case measure => rw [plc_at hL.out, show (i : Int) + 1 = ((i + 1 : Nat) : Int) from rfl, plc_at ((hL.out.drewN _).to (i + 1))]; show s.size - (i + 1) < s.size - i; omega
      · have hnext := Lib.hid (hm.out.trans (line_blank (st := ⟨i, ts, ds⟩) hlt (by show (bt s i == 32 || _) = true; rw [h32]; rfl)))
        go_wp2_with fail
        go_quiet (fail)
        go_wp2_with fail
        go_quiet (fail)
        go_wp2
        go_roundw
        case rel => exact ⟨i + 1, f, ts, ds, by omega, by omega, hds, by omega, rfl, hnext, Lib.hid ((hL.out.drewN _).to (i + 1)), Lib.hid ((below_drew hbel.out _).setCell hnb _)⟩
        case measure => rw [plc_at hL.out, show (i : Int) + 1 = ((i + 1 : Nat) : Int) from rfl, plc_at ((hL.out.drewN _).to (i + 1))]; show s.size - (i + 1) < s.size - i; omega
    · have hres := Lib.hid (hm.out.trans (line_end (st := ⟨i, ts, ds⟩) hlt))
      go_wp2_with fail
      go_quiet (fail)
      go_wp2
      rw [Exit.noGoto_ret]
      go_ret2
      rw [hres.out]
      exact ⟨rfl, hL.out.drewN _, below_drew hbel.out _⟩
end Go.Proofs.YtnhbcmhinhncfaaGreatDoor
