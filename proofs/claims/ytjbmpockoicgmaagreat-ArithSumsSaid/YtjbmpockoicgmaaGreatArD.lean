/- The token that a text begins with: contract. No condition but that the text is short. -/
import Derived.Test.YtjbmpockoicgmaaGreatArC
namespace Go.Proofs.YtjbmpockoicgmaaGreat
open Go.RowKit Go.PlainAid
set_option linter.unusedVariables false
set_option linter.unusedSimpArgs false
attribute [local go_sem] Oper.semAt_some

def tkV (t : Tk) : Value := .agg #[.int .i64 t.kind, .string t.text, .int .i64 t.num]
def tcs (t : Tk) : List Value := [.int .i64 t.kind, .string t.text, .int .i64 t.num]
theorem tcs_len (t : Tk) : (tcs t).length = 3 := rfl
theorem tcs_one (t : Tk) : ∀ u ∈ tcs t, u.oneCell' = true := by simp [tcs, Value.oneCell']
/-- A struct of three cells that is written whole. -/
def set3 (W : World) (m : Nat) (a b c : Value) : World := ((W.setCell ⟨m, 0, none⟩ a).setCell ⟨m, 1, none⟩ b).setCell ⟨m, 2, none⟩ c
theorem set3_blk {W : World} {m : Nat} {t : TypeId} {a b c a' b' c' : Value} (h : Blk W m t #[a, b, c]) : Blk (set3 W m a' b' c') m t #[a', b', c'] := ((h.set_ 0 _).set_ 1 _).set_ 2 _
theorem set3_below {n m : Nat} {w W : World} (h : Below n w W) (hm : n ≤ m) (a b c : Value) : Below n w (set3 W m a b c) := ((h.setCell hm _).setCell hm _).setCell hm _
abbrev Z64 : Array Value := #[.int .i64 0, .string ⟨#[]⟩, .int .i64 0]

set_option maxRecDepth 100000 in
set_option maxHeartbeats 4000000 in
theorem tokenOf_any (s : ByteArray) (w : World) (hs : s.size ≤ 100000) : Calls Tryz.prog 25 #[.string s] w fun e w' => e = .returned (tkV (tokM s)) ∧ Below w.heap.size w w' := by
  have hb := get_bt s
  by_cases hz : s.size = 0
  · have ht := Lib.hid (show tokM s = tk0 by unfold tokM; rw [if_pos hz])
    have e0 := size0 hz
    rw [ht.out]
    subst e0
    go_enter Tryz.func25, Tryz.ntmps25
    go_wp2_with fail
    refine bodyPost_ret (results_cell_row rfl _ _ w.heap.size 64 Z64 (0, 0) _ rfl (Blk.new w _ _) Tryz.underlying64 rfl (by kernel_rfl)) rfl ?_
    exact ⟨rfl, (Below.refl _ _).alloc (Nat.le_refl _) _⟩
  · have hne : (!s.toList.isEmpty) = true := str_ne hz
    have hne2 : s.toList.isEmpty = false := by simpa using hne
    have hnil : ¬ s.toList = [] := by simpa using hne2
    have h0 : 0 < s.size := by omega
    have hN := Lib.hid (Blk.new w 64 Z64)
    have hNb := Lib.hid (show Below w.heap.size w (w.alloc (.cells Z64 64)) from (Below.refl _ _).alloc (Nat.le_refl _) _)
    have hall := Lib.hid (fun (w2 : World) (hb : Below (w.alloc (.cells Z64 64)).heap.size (w.alloc (.cells Z64 64)) w2) =>
      show (Blk w2 w.heap.size 64 Z64 ∧ Below w.heap.size w w2) ∧ (w2.cell? ⟨w.heap.size, 0, none⟩ = some (.int .i64 0) ∧ w2.cell? ⟨w.heap.size, 1, none⟩ = some (.string ⟨#[]⟩) ∧ w2.cell? ⟨w.heap.size, 2, none⟩ = some (.int .i64 0)) ∧
        w2.frozen? ⟨w.heap.size, 0, none⟩ = false ∧ w2.frozen? ⟨w.heap.size, 1, none⟩ = false ∧ w2.frozen? ⟨w.heap.size, 2, none⟩ = false from
      have h := blk_beneath hN.out hb
      ⟨⟨h, hNb.out.trans (hb.mono (by have := hNb.out.size; omega))⟩, ⟨h.cell 0, h.cell 1, h.cell 2⟩, h.frozen 0, h.frozen 1, h.frozen 2⟩)
    by_cases hd : 48 ≤ bt s 0 ∧ bt s 0 ≤ 57
    · obtain ⟨d0, d1⟩ := hd
      have hnum := Lib.hid (fun w => number_any s w (by omega))
      have hle := numM_le s
      have ht := Lib.hid (show tokM s = if 0 < (numM s).2 then ⟨1, s.extract 0 (numM s).2, (numM s).1⟩ else tk4 by unfold tokM; rw [if_neg hz, if_pos ⟨d0, d1⟩])
      obtain ⟨n, hn⟩ : ∃ n, (numM s).1 = n := ⟨_, rfl⟩
      obtain ⟨q, hq⟩ : ∃ q, (numM s).2 = q := ⟨_, rfl⟩
      rw [hn, hq] at hnum ht
      rw [hq] at hle
      clear hn hq
      by_cases hq0 : 0 < q
      · rw [ht.out, if_pos hq0]
        go_enter Tryz.func25, Tryz.ntmps25
        go_wp2_with (go_at_call 39; refine (hnum.out _).mono ?_; rintro e w2 ⟨rfl, hb2⟩; obtain ⟨hB2, ⟨c0, c1, c2⟩, f0, f1, f2⟩ := hall.out w2 hb2; have hB2H := Lib.hid hB2; clear hB2 hb2)
        refine bodyPost_ret (results_cell_row rfl _ _ w.heap.size 64 #[.int .i64 1, .string (s.extract 0 q), .int .i64 n] (0, 0) _ rfl (set3_blk hB2H.out.1) Tryz.underlying64 rfl (by kernel_rfl)) rfl ?_
        exact ⟨rfl, set3_below hB2H.out.2 (Nat.le_refl _) _ _ _⟩
      · rw [ht.out, if_neg hq0]
        obtain rfl : q = 0 := by omega
        go_enter Tryz.func25, Tryz.ntmps25
        go_wp2_with (go_at_call 39; refine (hnum.out _).mono ?_; rintro e w2 ⟨rfl, hb2⟩; obtain ⟨hB2, ⟨c0, c1, c2⟩, f0, f1, f2⟩ := hall.out w2 hb2; have hB2H := Lib.hid hB2; clear hB2 hb2)
        refine bodyPost_ret (results_cell_row rfl _ _ w.heap.size 64 #[.int .i64 4, .string ⟨#[]⟩, .int .i64 0] (0, 0) _ rfl (set3_blk hB2H.out.1) Tryz.underlying64 rfl (by kernel_rfl)) rfl ?_
        exact ⟨rfl, set3_below hB2H.out.2 (Nat.le_refl _) _ _ _⟩
    · have hnam := Lib.hid (fun w => nameSize_any s w hs)
      have hop := Lib.hid (fun w => operatorSize_any s w hs)
      have hle := nszA_le s
      have hlo := opSize_le s
      have ht := Lib.hid (show tokM s = if 0 < nszA s then ⟨2, s.extract 0 (nszA s), 0⟩ else if 0 < opSize s then ⟨3, s.extract 0 (opSize s), 0⟩ else tk4 by unfold tokM; rw [if_neg hz, if_neg hd])
      obtain ⟨n, hn⟩ : ∃ n, nszA s = n := ⟨_, rfl⟩
      obtain ⟨q, hq⟩ : ∃ q, opSize s = q := ⟨_, rfl⟩
      rw [hn] at hnam hle
      rw [hq] at hop hlo
      rw [hn, hq] at ht
      clear hn hq
      have hd' : 48 ≤ bt s 0 → ¬ bt s 0 ≤ 57 := fun h h' => hd ⟨h, h'⟩
      clear hd
      by_cases hn0 : 0 < n
      · rw [ht.out, if_pos hn0]
        by_cases d0 : 48 ≤ bt s 0
        · have d1 := hd' d0
          clear hd'
          go_enter Tryz.func25, Tryz.ntmps25
          go_wp2_with (go_at_call 40; refine (hnam.out _).mono ?_; rintro e w2 ⟨rfl, hb2⟩; obtain ⟨hB2, ⟨c0, c1, c2⟩, f0, f1, f2⟩ := hall.out w2 hb2; have hB2H := Lib.hid hB2; clear hB2 hb2)
          refine bodyPost_ret (results_cell_row rfl _ _ w.heap.size 64 #[.int .i64 2, .string (s.extract 0 n), .int .i64 0] (0, 0) _ rfl (set3_blk hB2H.out.1) Tryz.underlying64 rfl (by kernel_rfl)) rfl ?_
          exact ⟨rfl, set3_below hB2H.out.2 (Nat.le_refl _) _ _ _⟩
        · clear hd'
          go_enter Tryz.func25, Tryz.ntmps25
          go_wp2_with (go_at_call 40; refine (hnam.out _).mono ?_; rintro e w2 ⟨rfl, hb2⟩; obtain ⟨hB2, ⟨c0, c1, c2⟩, f0, f1, f2⟩ := hall.out w2 hb2; have hB2H := Lib.hid hB2; clear hB2 hb2)
          refine bodyPost_ret (results_cell_row rfl _ _ w.heap.size 64 #[.int .i64 2, .string (s.extract 0 n), .int .i64 0] (0, 0) _ rfl (set3_blk hB2H.out.1) Tryz.underlying64 rfl (by kernel_rfl)) rfl ?_
          exact ⟨rfl, set3_below hB2H.out.2 (Nat.le_refl _) _ _ _⟩
      · obtain rfl : n = 0 := by omega
        by_cases d0 : 48 ≤ bt s 0
        all_goals
          first
          | (have d1 := hd' d0)
          | skip
          clear hd'
          by_cases hq0 : 0 < q
          · rw [ht.out, if_neg hn0, if_pos hq0]
            go_enter Tryz.func25, Tryz.ntmps25
            go_wp2_with (first | (go_at_call 40; refine (hnam.out _).mono ?_; rintro e w2 ⟨rfl, hb2⟩; obtain ⟨hB2, ⟨c0, c1, c2⟩, f0, f1, f2⟩ := hall.out w2 hb2; have hB2H := Lib.hid hB2; clear hB2 hb2) | (go_at_call 41; refine (hop.out _).mono ?_; rintro e w3 ⟨rfl, rfl⟩))
            refine bodyPost_ret (results_cell_row rfl _ _ w.heap.size 64 #[.int .i64 3, .string (s.extract 0 q), .int .i64 0] (0, 0) _ rfl (set3_blk hB2H.out.1) Tryz.underlying64 rfl (by kernel_rfl)) rfl ?_
            exact ⟨rfl, set3_below hB2H.out.2 (Nat.le_refl _) _ _ _⟩
          · rw [ht.out, if_neg hn0, if_neg hq0]
            obtain rfl : q = 0 := by omega
            go_enter Tryz.func25, Tryz.ntmps25
            go_wp2_with (first | (go_at_call 40; refine (hnam.out _).mono ?_; rintro e w2 ⟨rfl, hb2⟩; obtain ⟨hB2, ⟨c0, c1, c2⟩, f0, f1, f2⟩ := hall.out w2 hb2; have hB2H := Lib.hid hB2; clear hB2 hb2) | (go_at_call 41; refine (hop.out _).mono ?_; rintro e w3 ⟨rfl, rfl⟩))
            refine bodyPost_ret (results_cell_row rfl _ _ w.heap.size 64 #[.int .i64 4, .string ⟨#[]⟩, .int .i64 0] (0, 0) _ rfl (set3_blk hB2H.out.1) Tryz.underlying64 rfl (by kernel_rfl)) rfl ?_
            exact ⟨rfl, set3_below hB2H.out.2 (Nat.le_refl _) _ _ _⟩
end Go.Proofs.YtjbmpockoicgmaaGreat
