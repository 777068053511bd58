/- Line, whatever the text and the place. No condition. -/
import Derived.Test.YtnhbcmhinhncfaaGreatDoorLxN
namespace Go.Proofs.YtnhbcmhinhncfaaGreatDoor
open Go.RowKit Go.PlainAid
attribute [local go_sem] Oper.semAt_some

theorem results_four {fn : Func} {t u v x : Tmp} (h : fn.results = #[.tmp t, .tmp u, .tmp v, .tmp x]) (tmps : Array Value) (P : Program) (w : World) :
    (results fn tmps).run P w = .ok (.tuple #[tmps.getD t undef, tmps.getD u undef, tmps.getD v undef, tmps.getD x undef]) w := by
  simp [results, h]
/-- A row of tokens that a call answered, as values. -/
structure LOut (w w' : World) (r : LR) (a : Option Addr) (c : Nat) : Prop where
  row : w'.ownsRow w.heap.size 58 5 (.slice a r.toks.length c) r.toks.length (tv r.toks)
  below : Below w.heap.size w w'
theorem lout_nil {w w' : World} {r : LR} (h : r.toks = []) (hb : Below w.heap.size w w') : LOut w w' r none 0 := by
  refine ⟨?_, hb⟩
  rw [h]; exact World.ownsRow_nil _ _ _ _

set_option maxRecDepth 100000 in
set_option maxHeartbeats 4000000 in
theorem line_at (s : ByteArray) (i : Nat) (w : World) (hs : s.size ≤ 65536) (hi : i ≤ s.size) :
    Calls Tryz.prog 28 #[.string s, .int .i64 i] w fun e w' => ∃ a c, e = .returned (.tuple #[.slice a (atM s i).toks.length c, .int .i64 (atM s i).next, .int .i64 (atM s i).place, .int .i64 (atM s i).err]) ∧ LOut w w' (atM s i) a c := by
  obtain ⟨n₀, hn₀⟩ : ∃ x, w.heap.size = x := ⟨_, rfl⟩
  obtain ⟨w1, hw1⟩ : ∃ x, w.alloc (.cells #[.string s, .int .i64 i, .slice none 0 0, .slice none 0 0] 92) = x := ⟨_, rfl⟩
  have hN1 : Blk w1 n₀ 92 (rdC s i none 0 0 none 0 0) := by rw [← hw1, ← hn₀]; exact Blk.new _ _ _
  have hL : LAt w1 n₀ n₀ s ⟨i, [], []⟩ := ⟨⟨none, 0, none, 0, hN1, World.ownsRow_nil _ _ _ _, World.ownsRow_nil _ _ _ _⟩, Nat.le_refl _, by rw [← hw1, World.size_alloc, hn₀]; omega⟩
  have hb1 := Lib.hid ((Below.refl n₀ w).alloc (by omega) (.cells #[.string s, .int .i64 i, .slice none 0 0, .slice none 0 0] 92))
  rw [hw1] at hb1
  have hlw := line_any hL hs hi (Nat.zero_le _) (Nat.le_refl _)
  have hwf : Wf s ⟨i, [], []⟩ := ⟨hi, Nat.zero_le _, Nat.le_refl _, (fun d hd => by cases hd), (fun t ht => by cases ht)⟩
  have hlf := line_wf (f := s.size) hwf
  have hlz := line_zero s.size ⟨i, [], []⟩ hi
  rcases hl : lineM s s.size ⟨i, [], []⟩ with ⟨pl, er, st⟩
  rw [hl] at hlw hlf hlz
  by_cases he : er = 0
  · subst he
    obtain rfl : pl = 0 := hlz rfl
    have hlw2 : Calls Tryz.prog 42 #[.pointer (some ⟨n₀, 0, none⟩)] w1 fun e w' => e = .returned (.tuple #[.int .i64 0, .int .i64 0]) ∧ LAt w' n₀ n₀ s st ∧ Below n₀ w1 w' := hlw
    have hwfS : Wf s st := hlf rfl
    rcases hd : docsM s st.dels st.toks st.place with ⟨pl, er, ts, j⟩
    have hdz := docs_zero (s := s) st.dels st.toks st.place
    rw [hd] at hdz
    have hlen := hwfS.toks
    have hlen2 := hwfS.dels
    have hle := hwfS.le
    have hdw := Lib.hid (fun w2 (h : LAt w2 n₀ n₀ s st) => documents_any h hs hwfS.le hwfS.del (fun t ht => Nat.le_trans (hwfS.text t ht) (by omega)) (by omega) (by omega))
    rw [hd] at hdw
    have hnH := Lib.hid hn₀
    have hwH := Lib.hid hw1
    have hlH := Lib.hid hlw2
    by_cases he : er = 0
    · subst he
      obtain rfl : pl = 0 := hdz rfl
      have hres := Lib.hid (at_ok hl hd)
      clear hn₀ hw1 hlw hlw2 hd hdz hl hlf hlz hL hN1
      go_enter Tryz.func28, Tryz.ntmps28
      go_wp2_with fail
      rw [hwH.out, hnH.out]
      go_wp2_with (first | (go_at_call 42; refine hlH.out.mono ?_; rintro e2 w2 ⟨rfl, hL2, hb2⟩; have hL2H := Lib.hid hL2; have hb2H := Lib.hid (hb1.out.trans hb2); clear hL2 hb2) | (go_at_call 43; refine (hdw.out _ hL2H.out).mono ?_; rintro e3 w3 ⟨rfl, hL3, hb3⟩; have hb3H := Lib.hid (hb2H.out.trans hb3); obtain ⟨a0, c0, a1, c1, hB3, hr3, hd3⟩ := hL3.ex; have y1 : w3.cell? ⟨n₀, 1, none⟩ = some (.int .i64 j) := hB3.cell 1; have y2 : w3.cell? ⟨n₀, 2, none⟩ = some (.slice a0 ts.length c0) := hB3.cell 2; have hr3H := Lib.hid hr3; clear hL3 hb3 hB3 hr3 hd3))
      go_quiet (fail)
      go_wp2
      (try simp only [Exit.inBlock, Exit.then]); refine bodyPost_ret (results_four rfl _ _ _) rfl ?_
      rw [hres.out]
      exact ⟨a0, c0, rfl, by rw [hnH.out]; exact hr3H.out, by rw [hnH.out]; exact below_drew hb3H.out _⟩
    · have hres := Lib.hid (at_doc hl hd he)
      have hE := ne_err he
      clear hn₀ hw1 hlw hlw2 hd hdz hl hlf hlz hL hN1
      go_enter Tryz.func28, Tryz.ntmps28
      go_wp2_with fail
      rw [hwH.out, hnH.out]
      go_wp2_with (first | (go_at_call 42; refine hlH.out.mono ?_; rintro e2 w2 ⟨rfl, hL2, hb2⟩; have hL2H := Lib.hid hL2; have hb2H := Lib.hid (hb1.out.trans hb2); clear hL2 hb2) | (go_at_call 43; refine (hdw.out _ hL2H.out).mono ?_; rintro e3 w3 ⟨rfl, hL3, hb3⟩; have hb3H := Lib.hid (hb2H.out.trans hb3); clear hL3 hb3))
      (try simp only [Exit.inBlock, Exit.then]); refine bodyPost_ret (results_four rfl _ _ _) rfl ?_
      rw [hres.out]
      exact ⟨none, 0, rfl, lout_nil rfl (by rw [hnH.out]; exact hb3H.out)⟩
  · have hlw2 : Calls Tryz.prog 42 #[.pointer (some ⟨n₀, 0, none⟩)] w1 fun e w' => e = .returned (.tuple #[.int .i64 pl, .int .i64 er]) ∧ LAt w' n₀ n₀ s st ∧ Below n₀ w1 w' := hlw
    have hnH := Lib.hid hn₀
    have hwH := Lib.hid hw1
    have hlH := Lib.hid hlw2
    have hres := Lib.hid (at_bad hl he)
    have hE := ne_err he
    clear hn₀ hw1 hlw hlw2 hl hlf hlz hL hN1
    go_enter Tryz.func28, Tryz.ntmps28
    go_wp2_with fail
    rw [hwH.out, hnH.out]
    go_wp2_with (first | (go_at_call 42; refine hlH.out.mono ?_; rintro e2 w2 ⟨rfl, hL2, hb2⟩; have hb2H := Lib.hid (hb1.out.trans hb2); clear hL2 hb2))
    (try simp only [Exit.inBlock, Exit.then]); refine bodyPost_ret (results_four rfl _ _ _) rfl ?_
    rw [hres.out]
    exact ⟨none, 0, rfl, lout_nil rfl (by rw [hnH.out]; exact hb2H.out)⟩
theorem Line_any (s : ByteArray) (i : Int) (w : World) :
    Calls Tryz.prog 28 #[.string s, .int .i64 i] w fun e w' => ∃ a c, e = .returned (.tuple #[.slice a (topM s i).toks.length c, .int .i64 (topM s i).next, .int .i64 (topM s i).place, .int .i64 (topM s i).err]) ∧ LOut w w' (topM s i) a c := by
  by_cases hs : 65536 < s.size
  · have hres : Hid (topM s i = ⟨[], 0, 0, 50⟩) := Lib.hid (by unfold topM; rw [if_pos hs])
    go_enter Tryz.func28, Tryz.ntmps28
    go_wp2
    (try simp only [Exit.inBlock, Exit.then]); refine bodyPost_ret (results_four rfl _ _ _) rfl ?_
    rw [hres.out]
    exact ⟨none, 0, rfl, lout_nil rfl (Below.refl _ _)⟩
  · by_cases hi : i < 0
    · have hres : Hid (topM s i = ⟨[], 0, 0, 73⟩) := Lib.hid (by unfold topM; rw [if_neg hs, if_pos (.inl hi)])
      go_enter Tryz.func28, Tryz.ntmps28
      go_wp2
      (try simp only [Exit.inBlock, Exit.then]); refine bodyPost_ret (results_four rfl _ _ _) rfl ?_
      rw [hres.out]
      exact ⟨none, 0, rfl, lout_nil rfl (Below.refl _ _)⟩
    · by_cases hi2 : (s.size : Int) < i
      · have hres : Hid (topM s i = ⟨[], 0, 0, 73⟩) := Lib.hid (by unfold topM; rw [if_neg hs, if_pos (.inr hi2)])
        go_enter Tryz.func28, Tryz.ntmps28
        go_wp2
        (try simp only [Exit.inBlock, Exit.then]); refine bodyPost_ret (results_four rfl _ _ _) rfl ?_
        rw [hres.out]
        exact ⟨none, 0, rfl, lout_nil rfl (Below.refl _ _)⟩
      · obtain ⟨n, rfl⟩ : ∃ n : Nat, i = n := ⟨i.toNat, by omega⟩
        have hres : topM s n = atM s n := by unfold topM; rw [if_neg hs, if_neg (by omega)]; rfl
        rw [hres]
        exact line_at s n w (by omega) (by omega)
end Go.Proofs.YtnhbcmhinhncfaaGreatDoor
