/- The walk of LexStands. No condition. -/
import Derived.Test.YtkakphiofahlgaaDoorLxQ
import Derived.Lib.Hide
namespace Go.Proofs.YtkakphiofahlgaaDoor
open Go.RowKit Go.PlainAid
attribute [local go_sem] Oper.semAt_some

theorem blank_cases {c : Int} (h : blankB c = true) : c = 9 ∨ c = 32 ∨ c = 92 ∨ c = 10 := by
  unfold blankB at h
  simpa [or_assoc] using h

set_option maxRecDepth 100000 in
set_option maxHeartbeats 4000000 in
theorem stands_walk (s : ByteArray) (w : World) : Calls Tryd.prog 4 #[.string s] w fun e w' => e = .returned (.bool true) ∧ Below w.heap.size w w' := by
  have hbt := get_bt s
  have hawH := Lib.hid (awake_any w)
  have hln := fun w => Line_any s 0 w
  obtain ⟨r, hr⟩ : ∃ r, topM s 0 = r := ⟨_, rfl⟩
  rw [hr] at hln
  by_cases he : r.err = 0
  · have hst := top_stands (s := s) (by rw [hr]; exact he)
    have htl := (top_len s 0).1
    rw [hr] at hst htl
    obtain ⟨hst, hn1, hn2, hs⟩ := hst
    obtain ⟨ts, nx, pl, er⟩ := r
    simp only at he hst hn1 hn2 hln htl
    subst he
    obtain ⟨cs, hcs⟩ : ∃ cs, ts.map Tk.co = cs := ⟨_, rfl⟩
    obtain ⟨n, hn⟩ : ∃ n, ts.length = n := ⟨_, rfl⟩
    have hcn : cs.length = n := by rw [← hcs, List.length_map, hn]
    rw [hcs] at hst hn1
    rw [hn] at hln htl
    have hlnH := Lib.hid hln
    clear hln hr
    go_enter Tryd.func4, Tryd.ntmps4
    go_wp2_with (first | (go_at_call 8; refine hawH.out.mono ?_; rintro e w1 ⟨rfl, hb1⟩; have hb1H := Lib.hid hb1; clear hb1) | (go_at_call 9; refine (hlnH.out _).mono ?_; rintro e w2 ⟨a, c, rfl, hrow, hbel⟩; have hrow2 := hrow; simp only [hn] at hrow2; have hrowH := Lib.hid hrow2; have hb2H := Lib.hid (hb1H.out.trans (below_of hbel hb1H.out.size)); clear hrow hrow2 hbel))
    go_loopw [7, 33] (fun v u wr => ∃ k : Nat, k ≤ n ∧ v = .int .i64 (endC (cs.take k)) ∧ u = .int .i64 k ∧ Hid (wr.ownsRow w1.heap.size 28 5 (.slice a n c) n (tv ts)) ∧ Hid (Below w.heap.size w wr)) (fun _ u _ => n - (intOf u).toNat)
    case atStart => exact ⟨0, Nat.zero_le _, by go_num, by go_num, hrowH, hb2H⟩
    case round =>
      obtain ⟨k, hk, rfl, rfl, hrw, hbw⟩ := hrel
      by_cases hlt : k < n
      · obtain ⟨t, htk⟩ : ∃ t, ts[k]? = some t := ⟨ts[k]'(by omega), List.getElem?_eq_getElem _⟩
        have hck : cs[k]? = some t.co := by rw [← hcs, List.getElem?_map, htk]; rfl
        have hnext : endC (cs.take (k + 1)) = t.place + t.text.size := by
          rw [List.take_add_one, hck]
          exact endC_app _ _
        obtain ⟨o1, o2, o3, ⟨o4, o5⟩, o6, o7⟩ := hst.all k _ hck
        obtain ⟨e, hee⟩ : ∃ e, endC (cs.take k) = e := ⟨_, rfl⟩
        obtain ⟨g, rfl, hg0, hg1, hcell⟩ := row_form hn.symm hrw.out (by omega)
        have y := hcell k t htk
        obtain ⟨kd, tx, p, dc, rw9⟩ := t
        obtain ⟨m, hm⟩ : ∃ m, tx.size = m := ⟨_, rfl⟩
        simp only [Tk.co, hee] at o1 o2 o3 o4 o5 o6 o7 hnext
        rw [hm] at o1 o2 o3 hnext
        obtain ⟨y1, y2, y3, y4, y5⟩ := y
        simp only at y1 y2 y3 y4 y5
        have x1 : s.extract p (p + m) = tx := o1.symm
        have x2 : tx.toList.isEmpty = false := by
          rw [ByteArray.toList_eq]
          cases htl : tx.data.toList with
          | nil => exfalso; have := Lib.size_eq tx; rw [htl, hm] at this; simp at this; omega
          | cons a l => rfl
        have x3 : ¬ (p < e) := by omega
        have x4 : ¬ ((s.size : Int) - (m : Int) < (p : Int)) := by omega
        have x5 : decide (p < e) = false := decide_eq_false x3
        have x6 : decide ((s.size : Int) - (m : Int) < (p : Int)) = false := decide_eq_false x4
        have x7 : ¬ (kd < 1) := by omega
        have x8 : ¬ (4 < kd) := by omega
        have x9 : decide (kd < 1) = false := decide_eq_false x7
        have x10 : decide (4 < kd) = false := decide_eq_false x8
        have hgH := Lib.hid o7
        clear o1 o7 hcell hck htk
        go_wp2_with fail
        obtain ⟨w3, hw3⟩ : ∃ x, wr.alloc (.cells #[.int .i64 kd, .string tx, .int .i64 p, .string dc, .bool rw9] 28) = x := ⟨_, rfl⟩
        obtain ⟨B, hBs⟩ : ∃ x, wr.heap.size = x := ⟨_, rfl⟩
        have hN : Blk w3 B 28 #[.int .i64 kd, .string tx, .int .i64 p, .string dc, .bool rw9] := by rw [← hw3, ← hBs]; exact Blk.new _ _ _
        have hrow3 : Hid (w3.ownsRow w1.heap.size 28 5 (.slice (some ⟨g, 0, none⟩) n c) n (tv ts)) := Lib.hid (by rw [← hw3]; exact hrw.out.alloc _)
        have hb3 : Hid (Below w.heap.size w w3) := Lib.hid (by rw [← hw3]; exact hbw.out.alloc hbw.out.size _)
        rw [hw3, hBs]
        have n0 : w3.cell? ⟨B, 0, none⟩ = some (.int .i64 kd) := hN.cell 0
        have n1 : w3.cell? ⟨B, 1, none⟩ = some (.string tx) := hN.cell 1
        have n2 : w3.cell? ⟨B, 2, none⟩ = some (.int .i64 p) := hN.cell 2
        clear hw3 hBs hN
        go_quiet (fail)
        obtain ⟨w4, hw4⟩ : ∃ x, w3.drewN nq = x := ⟨_, rfl⟩
        have m1 : w4.cell? ⟨B, 1, none⟩ = some (.string tx) := by rw [← hw4]; exact n1
        have m2 : w4.cell? ⟨B, 2, none⟩ = some (.int .i64 p) := by rw [← hw4]; exact n2
        have hrow4 : Hid (w4.ownsRow w1.heap.size 28 5 (.slice (some ⟨g, 0, none⟩) n c) n (tv ts)) := Lib.hid (by rw [← hw4]; exact hrow3.out)
        have hb4 : Hid (Below w.heap.size w w4) := Lib.hid (by rw [← hw4]; exact below_drew hb3.out _)
        rw [hw4]
        clear hw4 n0 n1 n2 hrow3
        obtain ⟨q, hq1, hq2, hq3, hq4⟩ := hgH.out
        have hq3H := Lib.hid hq3
        have hq4H := Lib.hid hq4
        clear hq3 hq4
        go_wp2
        go_loopw [10, 11] (fun rv iv wr' => ∃ i : Nat, e ≤ i ∧ i ≤ p ∧ rv = .bool (decide (q < i)) ∧ iv = .int .i64 i ∧ wr' = w4) (fun _ iv _ => p - (intOf iv).toNat)
        case atStart => exact ⟨e, Nat.le_refl _, o6, by rw [decide_eq_false (by omega)], by go_num, rfl⟩
        case round =>
          obtain ⟨i, hi1, hi2, rfl, rfl, rfl⟩ := hrel
          by_cases hip : i < p
          · have hin : i < s.size := by omega
            by_cases hqi : q < i
            · rw [decide_eq_true hqi]
              have hnx := Lib.hid (show decide (q < i + 1) = true from decide_eq_true (by omega))
              go_wp2
              go_roundw
              case rel => exact ⟨i + 1, by omega, by omega, by rw [hnx.out], by go_num, by first | rfl | trivial⟩
              case measure => simp [intOf]; omega
            · rw [decide_eq_false hqi]
              by_cases hqe : i = q
              · subst hqe
                have b35 : bt s i = 35 := by simpa using hq4H.out (by omega)
                have hnx := Lib.hid (show decide (i < i + 1) = true from decide_eq_true (by omega))
                clear hqi
                go_wp2
                go_roundw
                case rel => exact ⟨i + 1, by omega, by omega, by rw [hnx.out], by go_num, by first | rfl | trivial⟩
                case measure => simp [intOf]; omega
              · have hnx := Lib.hid (show decide (q < i + 1) = false from decide_eq_false (by omega))
                rcases blank_cases (hq3H.out i hi1 (by omega)) with b9 | b9 | b9 | b9
                all_goals
                  go_wp2
                  go_roundw
                  case rel => exact ⟨i + 1, by omega, by omega, by rw [hnx.out], by go_num, by first | rfl | trivial⟩
                  case measure => simp [intOf]; omega
          · obtain rfl : i = p := by omega
            go_wp2
            go_roundw
            case rel => exact ⟨k + 1, by omega, by rw [hnext]; go_num, by go_num, hrow4, hb4⟩
            case measure => simp [intOf]; omega
      · obtain rfl : k = n := by omega
        have hfull : endC (cs.take k) = endC cs := by rw [List.take_of_length_le (by omega)]
        obtain ⟨e, hee⟩ : ∃ e, endC cs = e := ⟨_, rfl⟩
        rw [hfull, hee]
        rw [hee] at hn1
        go_wp2
        go_ret
        exact ⟨rfl, hbw.out⟩
  · have hbad := top_bad (s := s) (i := 0) (by rw [hr]; exact he)
    rw [hr] at hbad
    obtain ⟨ts, nx, pl, er⟩ := r
    simp only at he hln hbad
    obtain ⟨rfl, rfl⟩ := hbad
    have hE := ne_err he
    have hlnH := Lib.hid hln
    clear hln hr
    go_enter Tryd.func4, Tryd.ntmps4
    go_wp2_with (first | (go_at_call 8; refine hawH.out.mono ?_; rintro e w1 ⟨rfl, hb1⟩; have hb1H := Lib.hid hb1; clear hb1) | (go_at_call 9; refine (hlnH.out _).mono ?_; rintro e w2 ⟨a, c, rfl, hrow, hbel⟩; have hb2H := Lib.hid (hb1H.out.trans (below_of hbel hb1H.out.size)); clear hrow hbel))
    go_ret
    exact ⟨rfl, hb2H.out⟩
end Go.Proofs.YtkakphiofahlgaaDoor
