/- The contracts of soft, hard, separator. No condition but lengths. -/
import Derived.Test.YtlaidmjlgjpgcaaSplC
namespace Go.Proofs.Ytlaidmjlgjpgcaa
open Go.RowKit

theorem end_any {n₀ mb : Nat} {m : Mk} {vf vc : Value} {sl : List Value} (w : World) (h : MkAt n₀ mb m vf vc sl w) (hl : m.fs.length ≤ 1000) (hn : n₀ ≤ w.heap.size) :
    Calls Try.prog 43 #[.pointer (some ⟨mb, 0, none⟩)] w (Stands n₀ mb m.fin w (.bool m.b)) := by
  cases hb : m.b
  · exact end_no w h hb
  · exact end_yes w h hb hl hn

theorem fin_b (m : Mk) : m.fin.b = false := by unfold Mk.fin; cases m.b <;> rfl

set_option maxHeartbeats 1000000 in
theorem soft_any {n₀ mb : Nat} {m : Mk} {vf vc : Value} {sl : List Value} (w : World) (h : MkAt n₀ mb m vf vc sl w) (hl : m.fs.length ≤ 1000) (hn : n₀ ≤ w.heap.size) :
    Calls Try.prog 40 #[.pointer (some ⟨mb, 0, none⟩)] w (Stands n₀ mb (m.step .sf) w (.tuple #[])) := by
  have hE := Lib.hid (end_any w h hl hn)
  have hnb := h.hb
  clear h
  cases hb : m.b
  · rw [hb] at hE
    have hs : Hid (m.step .sf = m.fin) := Lib.hid (by unfold Mk.step Mk.fin; rw [hb]; rfl)
    clear hb
    go_enter Try.func40, Try.ntmps40
    go_wp2_with fail
    refine hE.out.mono ?_
    rintro e w1 ⟨rfl, hk, vf', vc', sl', hM⟩
    have hkH := Lib.hid hk
    have hMH := Lib.hid hM
    clear hk hM
    go_wp2
    go_end0
    exact ⟨rfl, hkH.out, vf', vc', sl', by rw [hs.out]; exact hMH.out⟩
  · rw [hb] at hE
    have hs : Hid (m.step .sf = { m.fin with s := true }) := Lib.hid (by unfold Mk.step Mk.fin; rw [hb]; rfl)
    clear hb
    go_enter Try.func40, Try.ntmps40
    go_wp2_with fail
    refine hE.out.mono ?_
    rintro e w1 ⟨rfl, hk, vf', vc', sl', hM⟩
    have c3 := hM.c3
    have f3 := hM.fz 3
    have hkH := Lib.hid hk
    have hMH := Lib.hid hM
    clear hk hM
    go_wp2
    go_end0
    exact ⟨rfl, hkH.out.trans (Keep.set _ hnb 3 _), vf', vc', sl', by rw [hs.out]; exact hMH.out.set3 true⟩

set_option maxHeartbeats 2000000 in
theorem hard_any {n₀ mb : Nat} {m : Mk} {vf vc : Value} {sl : List Value} (w : World) (h : MkAt n₀ mb m vf vc sl w) (hl : m.fs.length ≤ 1000) (hn : n₀ ≤ w.heap.size) :
    Calls Try.prog 41 #[.pointer (some ⟨mb, 0, none⟩)] w (Stands n₀ mb (m.step .hd) w (.tuple #[])) := by
  have hE := Lib.hid (end_any w h hl hn)
  have hnb := h.hb
  clear h
  cases hb : m.b
  · rw [hb] at hE
    cases hsE : m.s
    · have hs : Hid (m.step .hd = { { m.fin with fs := m.fin.fs ++ [[]] } with s := false }) := Lib.hid (by unfold Mk.step Mk.fin; rw [hb, hsE]; rfl)
      have hfs : Hid (m.fin.fs = m.fs) := Lib.hid (by unfold Mk.fin; rw [hb]; rfl)
      have hss : Hid (m.fin.s = false) := Lib.hid (by unfold Mk.fin; rw [hb]; exact hsE)
      clear hb hsE
      obtain ⟨i0, hi, hz0, hz1, hz2⟩ := info_parts info22
      go_enter Try.func41, Try.ntmps41
      go_wp2_with fail
      refine hE.out.mono ?_
      rintro e w1 ⟨rfl, hk, vf', vc', sl', hM⟩
      have c0 := hM.c0
      have c3 := hM.c3
      rw [hss.out] at c3
      have f0 := hM.fz 0
      have f3 := hM.fz 3
      obtain ⟨cs, fr, hty⟩ := hM.ty
      have hlt : mb < w1.heap.size := (Array.getElem?_eq_some_iff.1 hty).1
      have hne := Lib.hid (row_ne hty (e := 22) (by decide) hM.rf)
      have hown := hM.rf
      rw [hfs.out] at hown
      have hn1 : n₀ ≤ w1.heap.size := by omega
      have hkH := Lib.hid hk
      have hMH := Lib.hid hM
      clear hk hM hty
      obtain ⟨k, hkk⟩ : ∃ k, m.fs.length = k := ⟨_, rfl⟩
      rw [hkk] at hl hown
      have hkkH := Lib.hid hkk
      clear hkk
      go_wp2_with (at_builtin; refine wpList_append_lies _ rfl _ _ 40 rfl n₀ 22 i0 _ 1 24 Try.underlying40 hi hz0 hz1 hz2 rfl (by omega) vf' k sl' (by rfl) (hown.alloc _) ⟨w1.heap.size, 0, none⟩ 1 1 [.slice none 0 0] (by rfl) (by rfl) (World.news_of_block (cs := #[.slice none 0 0]) (t := 22) (fr := (0, 0)) (heap_alloc_new w1 _)) (by simp [Value.oneCell']) (by omega) (by unfold maxLen; omega) (by omega) (by simp; omega) (w1.heap.size + 1) (by simp) ?_; intro gg cap w2 hown1 hgrow hat hlt1; have hm : w2.heap[mb]? = w1.heap[mb]? := (hgrow.block mb (by simp; omega) hne.out).trans (Below.heap_alloc _ _ _ hlt); have hc0 : w2.cell? ⟨mb, 0, none⟩ = some vf' := (World.cell?_of_block (a := ⟨mb, 0, none⟩) hm).trans c0; have hc3 : w2.cell? ⟨mb, 3, none⟩ = some (.bool false) := (World.cell?_of_block (a := ⟨mb, 3, none⟩) hm).trans c3; have hf0 : w2.frozen? ⟨mb, 0, none⟩ = false := (World.frozen?_of_block (a := ⟨mb, 0, none⟩) hm).trans f0; have hf3 : w2.frozen? ⟨mb, 3, none⟩ = false := (World.frozen?_of_block (a := ⟨mb, 3, none⟩) hm).trans f3; have hG : Hid (Grown w1 w2 vf') := Lib.hid (fun q hq hqn => (hgrow.block q (by simp; omega) hqn).trans (Below.heap_alloc _ _ _ hq)); have hgH := Lib.hid hgrow; have hoH := Lib.hid hown1; clear hgrow hown1 hm hat hlt1)
      go_end0
      refine ⟨rfl, (((hkH.out.trans (Keep.alloc w1 hn1 _)).trans (Keep.grown (hown.alloc _) (Nat.le_refl _) (.inr rfl) hgH.out (by simp; omega))).trans (Keep.set _ hnb 0 _)).trans (Keep.set _ hnb 3 _), ?_⟩
      rw [hs.out]
      exact ⟨_, _, _, (hMH.out.empty hG.out (by rw [hfs.out, hkkH.out]; exact hoH.out)).set3 false⟩
    · have hs : Hid (m.step .hd = { m.fin with s := false }) := Lib.hid (by unfold Mk.step Mk.fin; rw [hb, hsE]; rfl)
      have hss : Hid (m.fin.s = true) := Lib.hid (by unfold Mk.fin; rw [hb]; exact hsE)
      clear hb hsE
      go_enter Try.func41, Try.ntmps41
      go_wp2_with fail
      refine hE.out.mono ?_
      rintro e w1 ⟨rfl, hk, vf', vc', sl', hM⟩
      have c3 := hM.c3
      rw [hss.out] at c3
      have f3 := hM.fz 3
      have hkH := Lib.hid hk
      have hMH := Lib.hid hM
      clear hk hM
      go_wp2
      go_end0
      exact ⟨rfl, hkH.out.trans (Keep.set _ hnb 3 _), vf', vc', sl', by rw [hs.out]; exact hMH.out.set3 false⟩
  · rw [hb] at hE
    have hs : Hid (m.step .hd = { m.fin with s := false }) := Lib.hid (by unfold Mk.step Mk.fin; rw [hb]; rfl)
    clear hb
    go_enter Try.func41, Try.ntmps41
    go_wp2_with fail
    refine hE.out.mono ?_
    rintro e w1 ⟨rfl, hk, vf', vc', sl', hM⟩
    have c3 := hM.c3
    have f3 := hM.fz 3
    have hkH := Lib.hid hk
    have hMH := Lib.hid hM
    clear hk hM
    go_wp2
    go_end0
    exact ⟨rfl, hkH.out.trans (Keep.set _ hnb 3 _), vf', vc', sl', by rw [hs.out]; exact hMH.out.set3 false⟩
end Go.Proofs.Ytlaidmjlgjpgcaa
