/- The walk of LexAhead. Condition: the texts are within reach. -/
import Derived.Test.YtkakphiofahlgaaDoorLxAC
import Derived.Deep.Cut
namespace Go.Proofs.YtkakphiofahlgaaDoor
open Go.RowKit Go.PlainAid
attribute [local go_sem] Oper.semAt_some

set_option maxRecDepth 100000 in
set_option maxHeartbeats 4000000 in
theorem ahead_walk (s a b : ByteArray) (w : World) (hsz : s.size ≤ 150000000000000) (haz : a.size ≤ 150000000000000) (hbz : b.size ≤ 150000000000000) :
    Calls Tryd.prog 5 #[.string s, .string a, .string b] w fun e w' => e = .returned (.bool true) ∧ Below w.heap.size w w' := by
  have hbt := get_bt s
  have hawH := Lib.hid (awake_any w)
  have hln := fun w => Line_any s 0 w
  have hta := fun t => top_ahead (s := s) (a := a) (b := b) (t := t)
  have htl := top_len s 0
  have hst := top_stands (s := s)
  have hbad := top_bad (s := s) (i := 0)
  obtain ⟨r, hr⟩ : ∃ r, topM s 0 = r := ⟨_, rfl⟩
  rw [hr] at hln hta htl hst hbad
  obtain ⟨ts, nx, pl, er⟩ := r
  simp only at hln hta htl hst hbad
  by_cases he : er = 0
  · subst he
    obtain ⟨hstd, hn1, hn2, hs⟩ := hst rfl
    clear hst
    obtain ⟨n, hn⟩ : ∃ n, ts.length = n := ⟨_, rfl⟩
    rw [hn] at hln htl
    have hlnH := Lib.hid hln
    have hnH := Lib.hid hn
    have hcount := top_count (s := s) (i := 0) (Nat.zero_le _) (by show (topM s 0).err = 0; rw [hr])
    have hcn : n ≤ nx := by
      have h9 : 0 + (topM s 0).toks.length ≤ (topM s 0).next := hcount.1
      rw [hr] at h9
      simp only [hn] at h9
      omega
    clear hln hr hbad hcount hn
    by_cases hsum : 65536 < s.size + a.size + b.size
    · have c1 : (65536 : Int) < (s.size : Int) + (a.size : Int) + (b.size : Int) := by omega
      have c2 : decide ((65536 : Int) < (s.size : Int) + (a.size : Int) + (b.size : Int)) = true := decide_eq_true c1
      go_enter Tryd.func5, Tryd.ntmps5
      go_wp2_with (first | (go_at_call 8; refine hawH.out.mono ?_; rintro e w1 ⟨rfl, hb1⟩; have hb1H := Lib.hid hb1; clear hb1) | (go_at_call 9; refine (hlnH.out _).mono ?_; rintro e w2 ⟨al, cl, rfl, hrow, hbel⟩; have hb2H := Lib.hid (hb1H.out.trans (below_of hbel hb1H.out.size)); clear hrow hbel))
      go_ret
      exact ⟨rfl, hb2H.out⟩
    · have c1 : ¬ ((65536 : Int) < (s.size : Int) + (a.size : Int) + (b.size : Int)) := by omega
      have c2 : decide ((65536 : Int) < (s.size : Int) + (a.size : Int) + (b.size : Int)) = false := decide_eq_false c1
      by_cases hn0 : n = 0
      · subst hn0
        go_enter Tryd.func5, Tryd.ntmps5
        go_wp2_with (first | (go_at_call 8; refine hawH.out.mono ?_; rintro e w1 ⟨rfl, hb1⟩; have hb1H := Lib.hid hb1; clear hb1) | (go_at_call 9; refine (hlnH.out _).mono ?_; rintro e w2 ⟨al, cl, rfl, hrow, hbel⟩; have hb2H := Lib.hid (hb1H.out.trans (below_of hbel hb1H.out.size)); clear hrow hbel))
        go_ret
        exact ⟨rfl, hb2H.out⟩
      · obtain ⟨m, rfl⟩ : ∃ m, n = m + 1 := ⟨n - 1, by omega⟩
        obtain ⟨q, rfl⟩ : ∃ q, nx = q + 1 := ⟨nx - 1, by omega⟩
        obtain ⟨t, htm⟩ : ∃ t, ts[m]? = some t := ⟨ts[m]'(by have := hnH.out; omega), List.getElem?_eq_getElem _⟩
        have hlast : ts.getLast? = some t := by rw [List.getLast?_eq_getElem?, hnH.out]; exact htm
        have hq : q < s.size := by omega
        by_cases hk3 : t.kind = 3
        · by_cases hq10 : bt s q = 10
          · have htop := hta t rfl hlast hk3 (by show bt s (q + 1 - 1) = 10; rw [Nat.add_sub_cancel]; exact hq10) (by omega)
            have hln2 := Line_any (a ++ s.extract 0 (q + 1) ++ b) a.size
            rw [htop] at hln2
            have hml : (ts.map (shT a.size)).length = m + 1 := by rw [List.length_map, hnH.out]
            simp only [hml] at hln2
            have hnx : ((a.size + (q + 1) : Nat) : Int) = (q : Int) + 1 + (a.size : Int) := by omega
            rw [hnx] at hln2
            have hln2H := Lib.hid hln2
            have hmlH := Lib.hid hml
            have hz1 : (s.extract 0 (q + 1)).size = q + 1 := by rw [ByteArray.size_extract]; omega
            have hadd1 : ∀ w : World, (Op.stringOp .add a (s.extract 0 (q + 1))).run Tryd.prog w = .ok (.string (a ++ s.extract 0 (q + 1))) w := fun w => run_string_add_sum w _ _ (by rw [hz1]; omega)
            have hadd2 : ∀ w : World, (Op.stringOp .add (a ++ s.extract 0 (q + 1)) b).run Tryd.prog w = .ok (.string (a ++ s.extract 0 (q + 1) ++ b)) w := fun w => run_string_add_sum w _ _ (by rw [ByteArray.size_append, hz1]; omega)
            have hpl : ∀ (k : Nat) (t' : Tk), ts[k]? = some t' → t'.place ≤ 65536 := fun k t' ht' => by
              have h9 := (hstd.all k t'.co (by rw [List.getElem?_map, ht']; rfl)).le
              have h8 : t'.place + t'.text.size ≤ s.size := h9
              omega
            have hplH := Lib.hid hpl
            have hmm : m ≤ 65536 := by omega
            have d0 : ((m : Int) + 1 == 0) = false := beq_eq_false_iff_ne.2 (by omega)
            clear hta htop hstd hln2 hml hz1 hpl hnx
            go_enter Tryd.func5, Tryd.ntmps5
            go_upto_region 6 with (first | (go_at_call 8; refine hawH.out.mono ?_; rintro e w1 ⟨rfl, hb1⟩; have hb1H := Lib.hid hb1; clear hb1) | (go_at_call 9; refine (hlnH.out _).mono ?_; rintro e w2 ⟨al, cl, rfl, hrow, hbel⟩; have hb2H := Lib.hid (hb1H.out.trans (below_of hbel hb1H.out.size)); obtain ⟨g, rfl, hg0, hg1, hcell⟩ := row_form (show m + 1 = ts.length from hnH.out.symm) (by have h9 := hrow; simp only [hnH.out] at h9; exact h9) (by omega); have y0 := (hcell m t htm).kind; have hrow1 := Lib.hid hrow; clear hrow hbel hcell))
            go_wp2_with (first | (go_at_call 9; refine (hln2H.out _).mono ?_; rintro e w3 ⟨am, cm, rfl, hrow, hbel⟩; have hb3H := Lib.hid (hb2H.out.trans (below_of hbel hb2H.out.size)); have hrow2 := Lib.hid hrow; have hrow1b := Lib.hid (row_beneath hrow1.out hbel); clear hrow hbel))
            obtain ⟨n₁, hn₁⟩ : ∃ x, w1.heap.size = x := ⟨_, rfl⟩
            obtain ⟨n₂, hn₂⟩ : ∃ x, w2.heap.size = x := ⟨_, rfl⟩
            go_loopw [95] (fun v wr => ∃ k : Nat, k ≤ m + 1 ∧ v = .int .i64 k ∧ Hid (wr.ownsRow n₁ 28 5 (.slice (some ⟨g, 0, none⟩) (m + 1) cl) (m + 1) (tv ts)) ∧ Hid (wr.ownsRow n₂ 28 5 (.slice am (m + 1) cm) (m + 1) (tv (ts.map (shT a.size)))) ∧ Hid (Below w.heap.size w wr)) (fun v _ => m + 1 - (intOf v).toNat)
            case atStart => exact ⟨0, Nat.zero_le _, by go_num, Lib.hid (by have h9 := hrow1b.out; simp only [hnH.out, hn₁] at h9; exact h9), Lib.hid (by have h9 := hrow2.out; simp only [hmlH.out, hn₂] at h9; exact h9), hb3H⟩
            case round =>
              obtain ⟨k, hk, rfl, hr1, hr2, hbw⟩ := hrel
              by_cases hkm : k < m + 1
              · obtain ⟨u, hu⟩ : ∃ u, ts[k]? = some u := ⟨ts[k]'(by have := hnH.out; omega), List.getElem?_eq_getElem _⟩
                have hup := hplH.out k u hu
                obtain ⟨gl, hgl, _, hgl1, hcell⟩ := row_form hnH.out.symm hr1.out (by omega)
                obtain rfl : g = gl := by simpa using hgl
                obtain ⟨y0, y1, y2, y3, y4⟩ := hcell k u hu
                obtain ⟨gm, rfl, _, hgm1, hcm⟩ := row_form hmlH.out.symm hr2.out (by omega)
                have hmk := hcm k (shT a.size u) (by rw [List.getElem?_map, hu]; rfl)
                clear hcell hcm
                obtain ⟨W4, hW4⟩ : ∃ x, wr.alloc (.cells #[.int .i64 u.kind, .string u.text, .int .i64 ((u.place : Int) + (a.size : Int)), .string u.doc, .bool u.raw] 28) = x := ⟨_, rfl⟩
                obtain ⟨B, hBs⟩ : ∃ x, wr.heap.size = x := ⟨_, rfl⟩
                have hN : Blk W4 B 28 #[.int .i64 u.kind, .string u.text, .int .i64 ((u.place : Int) + (a.size : Int)), .string u.doc, .bool u.raw] := by rw [← hW4, ← hBs]; exact Blk.new _ _ _
                have hK4 : ∀ x, x < wr.heap.size → W4.heap[x]? = wr.heap[x]? := fun x hx => by rw [← hW4]; exact Below.heap_alloc _ _ _ hx
                have hr14 : Hid (W4.ownsRow n₁ 28 5 (.slice (some ⟨g, 0, none⟩) (m + 1) cl) (m + 1) (tv ts)) := Lib.hid (by rw [← hW4]; exact hr1.out.alloc _)
                have hr24 : Hid (W4.ownsRow n₂ 28 5 (.slice (some ⟨gm, 0, none⟩) (m + 1) cm) (m + 1) (tv (ts.map (shT a.size)))) := Lib.hid (by rw [← hW4]; exact hr2.out.alloc _)
                have hb4 : Hid (Below w.heap.size w W4) := Lib.hid (by rw [← hW4]; exact hbw.out.alloc hbw.out.size _)
                have v0 : W4.cell? ⟨B, 0, none⟩ = some (.int .i64 u.kind) := hN.cell 0
                have v1 : W4.cell? ⟨B, 1, none⟩ = some (.string u.text) := hN.cell 1
                have v2 : W4.cell? ⟨B, 2, none⟩ = some (.int .i64 ((u.place : Int) + (a.size : Int))) := hN.cell 2
                have v3 : W4.cell? ⟨B, 3, none⟩ = some (.string u.doc) := hN.cell 3
                have v4 : W4.cell? ⟨B, 4, none⟩ = some (.bool u.raw) := hN.cell 4
                obtain ⟨z0, z1, z2, z3, z4⟩ := hmk.keep (hK4 gm hgm1)
                have z2' : W4.cell? ⟨gm, k * 5 + 2, none⟩ = some (.int .i64 ((u.place : Int) + (a.size : Int))) := by rw [z2]; show some (Value.int .i64 ((a.size + u.place : Nat) : Int)) = _; rw [show ((a.size + u.place : Nat) : Int) = (u.place : Int) + (a.size : Int) by omega]
                have z0' : W4.cell? ⟨gm, k * 5, none⟩ = some (.int .i64 u.kind) := z0
                have z1' : W4.cell? ⟨gm, k * 5 + 1, none⟩ = some (.string u.text) := z1
                have z3' : W4.cell? ⟨gm, k * 5 + 3, none⟩ = some (.string u.doc) := z3
                have z4' : W4.cell? ⟨gm, k * 5 + 4, none⟩ = some (.bool u.raw) := z4
                have hW4H := Lib.hid hW4
                have hBH := Lib.hid hBs
                clear hmk hW4 hBs hN hK4 z0 z1 z2 z3 z4
                go_wp2_with fail
                rw [hW4H.out, hBH.out]
                go_quiet (fail)
                go_wp2
                go_roundw
                case rel => exact ⟨k + 1, by omega, by go_num, Lib.hid hr14.out, Lib.hid hr24.out, Lib.hid (below_drew hb4.out _)⟩
                case measure => simp [intOf]; omega
              · go_wp2
                go_ret
                exact ⟨rfl, hbw.out⟩
          · have d1 : (bt s q != 10) = true := by simpa using hq10
            go_enter Tryd.func5, Tryd.ntmps5
            go_wp2_with (first | (go_at_call 8; refine hawH.out.mono ?_; rintro e w1 ⟨rfl, hb1⟩; have hb1H := Lib.hid hb1; clear hb1) | (go_at_call 9; refine (hlnH.out _).mono ?_; rintro e w2 ⟨al, cl, rfl, hrow, hbel⟩; have hb2H := Lib.hid (hb1H.out.trans (below_of hbel hb1H.out.size)); obtain ⟨g, rfl, hg0, hg1, hcell⟩ := row_form (show m + 1 = ts.length from hnH.out.symm) (by have h9 := hrow; simp only [hnH.out] at h9; exact h9) (by omega); have y0 := (hcell m t htm).kind; clear hrow hbel hcell))
            go_ret
            exact ⟨rfl, hb2H.out⟩
        · have d1 : (t.kind != 3) = true := by simpa using hk3
          go_enter Tryd.func5, Tryd.ntmps5
          go_wp2_with (first | (go_at_call 8; refine hawH.out.mono ?_; rintro e w1 ⟨rfl, hb1⟩; have hb1H := Lib.hid hb1; clear hb1) | (go_at_call 9; refine (hlnH.out _).mono ?_; rintro e w2 ⟨al, cl, rfl, hrow, hbel⟩; have hb2H := Lib.hid (hb1H.out.trans (below_of hbel hb1H.out.size)); obtain ⟨g, rfl, hg0, hg1, hcell⟩ := row_form (show m + 1 = ts.length from hnH.out.symm) (by have h9 := hrow; simp only [hnH.out] at h9; exact h9) (by omega); have y0 := (hcell m t htm).kind; clear hrow hbel hcell))
          go_ret
          exact ⟨rfl, hb2H.out⟩
  · obtain ⟨rfl, rfl⟩ := hbad he
    have hE := ne_err he
    have hlnH := Lib.hid hln
    clear hln hr
    go_enter Tryd.func5, Tryd.ntmps5
    go_wp2_with (first | (go_at_call 8; refine hawH.out.mono ?_; rintro e w1 ⟨rfl, hb1⟩; have hb1H := Lib.hid hb1; clear hb1) | (go_at_call 9; refine (hlnH.out _).mono ?_; rintro e w2 ⟨al, cl, rfl, hrow, hbel⟩; have hb2H := Lib.hid (hb1H.out.trans (below_of hbel hb1H.out.size)); clear hrow hbel))
    go_ret
    exact ⟨rfl, hb2H.out⟩
theorem ahead_law (s a b : ByteArray) (w : World) (z0 : s.data.toList.length ≤ reachBytes) (z1 : a.data.toList.length ≤ reachBytes) (z2 : b.data.toList.length ≤ reachBytes) :
    Calls Tryd.prog 5 #[.string s, .string a, .string b] w fun e w' => e = .returned (.bool true) ∧ Below w.heap.size w w' :=
  ahead_walk s a b w (by rw [Lib.size_eq]; unfold reachBytes at z0; omega) (by rw [Lib.size_eq]; unfold reachBytes at z1; omega) (by rw [Lib.size_eq]; unfold reachBytes at z2; omega)
end Go.Proofs.YtkakphiofahlgaaDoor
