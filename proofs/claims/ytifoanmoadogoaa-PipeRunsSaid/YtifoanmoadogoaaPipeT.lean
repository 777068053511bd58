/- The walk of the law PipeRuns: true at every input. No condition. -/
import Derived.Test.YtifoanmoadogoaaPipeS
import Derived.Deep.DeepCutAuto
import Derived.Deep.CutBlock
import Derived.Deep.RegionWith
namespace Go.Proofs.Ytifoanmoadogoaa
open Go.RowKit

section
set_option maxHeartbeats 400000
theorem write_nil (x : ByteArray) (w : World) : Calls Try.prog 12 #[.pointer none, .string x] w fun e w' => e = .returned (.tuple #[.int .i64 0, .int .i64 9]) ∧ w' = w := by
  go_enter Try.func12, Try.ntmps12
  go_wp2
  go_ret2
  exact ⟨rfl, rfl⟩
theorem read_nil (n : Int) (w : World) : Calls Try.prog 13 #[.pointer none, .int .i64 n] w fun e w' => e = .returned (.tuple #[.string ⟨#[]⟩, .int .i64 9]) ∧ w' = w := by
  go_enter Try.func13, Try.ntmps13
  go_wp2
  go_ret2
  exact ⟨rfl, rfl⟩
theorem ends_nil (w : World) : Calls Try.prog 14 #[.pointer none] w fun e w' => e = .returned (.tuple #[.int .i64 0, .int .i64 0]) ∧ w' = w := by
  go_enter Try.func14, Try.ntmps14
  go_wp2
  go_ret2
  exact ⟨rfl, rfl⟩
theorem open_nil (b : Bool) (w : World) : Calls Try.prog 15 #[.pointer none, .bool b] w fun e w' => e = .returned (.tuple #[]) ∧ w' = w := by
  go_enter Try.func15, Try.ntmps15
  go_wp2
  go_end0
  exact ⟨rfl, rfl⟩
theorem close_nil (b : Bool) (w : World) : Calls Try.prog 16 #[.pointer none, .bool b] w fun e w' => e = .returned (.int .i64 9) ∧ w' = w := by
  go_enter Try.func16, Try.ntmps16
  go_wp2
  go_ret
  exact ⟨rfl, rfl⟩
theorem len_nil (w : World) : Calls Try.prog 17 #[.pointer none] w fun e w' => e = .returned (.int .i64 0) ∧ w' = w := by
  go_enter Try.func17, Try.ntmps17
  go_wp2
  go_ret
  exact ⟨rfl, rfl⟩
theorem waits_nil (b : Bool) (w : World) : Calls Try.prog 18 #[.pointer none, .bool b] w fun e w' => e = .returned (.bool false) ∧ w' = w := by
  go_enter Try.func18, Try.ntmps18
  go_wp2
  go_ret
  exact ⟨rfl, rfl⟩
end

/-- The pipe and the reference's pipe, and a third block that is as it was. -/
structure Both (w : World) (P B Q D : Nat) (o : Obj) (s1 s2 : St) : Prop where
  p : PipeAt w P B s1
  q : RefAt w Q s2
  qp : Q ≠ P
  qb : Q ≠ B
  d : w.heap[D]? = some o
  dp : D ≠ P
  db : D ≠ B
  dq : D ≠ Q

theorem Both.ltD {w : World} {P B Q D : Nat} {o : Obj} {s1 s2 : St} (h : Both w P B Q D o s1 s2) : D < w.heap.size := by
  rcases Nat.lt_or_ge D w.heap.size with g | g
  · exact g
  · have := h.d; rw [Array.getElem?_eq_none g] at this; simp at this

theorem Both.stepP {w w' : World} {P B Q D : Nat} {o : Obj} {s1 s1' s2 : St} (h : Both w P B Q D o s1 s2) (hp : PipeAt w' P B s1') (hF : Frame P B w w') : Both w' P B Q D o s1' s2 :=
  ⟨hp, h.q.keep (hF.block Q h.q.lt h.qp h.qb), h.qp, h.qb, (hF.block D h.ltD h.dp h.db).trans h.d, h.dp, h.db, h.dq⟩
theorem Both.stepQ {w w' : World} {P B Q D : Nat} {o : Obj} {s1 s2 s2' : St} (h : Both w P B Q D o s1 s2) (hq : RefAt w' Q s2') (hF : Frame Q Q w w') : Both w' P B Q D o s1 s2' :=
  ⟨h.p.keep ⟨hF.block P h.p.ltP (Ne.symm h.qp) (Ne.symm h.qp), hF.block B h.p.ltB (Ne.symm h.qb) (Ne.symm h.qb)⟩, hq, h.qp, h.qb, (hF.block D h.ltD h.dq h.dq).trans h.d, h.dp, h.db, h.dq⟩
theorem Both.keep {w w' : World} {P B Q D : Nat} {o : Obj} {s1 s2 : St} (h : Both w P B Q D o s1 s2) (hk : w'.heap = w.heap) : Both w' P B Q D o s1 s2 :=
  ⟨h.p.keep ⟨by rw [hk], by rw [hk]⟩, h.q.keep (by rw [hk]), h.qp, h.qb, by rw [hk]; exact h.d, h.dp, h.db, h.dq⟩

theorem Both.cell {w : World} {P B Q D : Nat} {cs : Array Value} {t : TypeId} {s1 s2 : St} (h : Both w P B Q D (.cells cs t) s1 s2) (i : Nat) (v : Value) (hv : cs[i]? = some v) : w.cell? ⟨D, i, none⟩ = some v := by
  simp only [World.cell?, h.d]
  simpa using hv

theorem close_both {P B Q D : Nat} (b : Bool) (s1 s2 : St) (cs : Array Value) (w : World) (h : Both w P B Q D (.cells cs 42) s1 s2) (hr : s1.r < 4611686018427387904) (ht : s1.t < 4611686018427387904) (v : Value) (hv : cs[2]? = some v) :
    Calls Try.prog 16 #[.pointer (some ⟨P, 0, none⟩), .bool b] w fun e w' => e = .returned (.int .i64 (s1.closeErr b)) ∧ Both w' P B Q D (.cells cs 42) (s1.closed b) s2 ∧ w'.cell? ⟨D, 2, none⟩ = some v ∧ Frame P B w w' :=
  (close_any b w h.p hr ht).mono fun _ _ ⟨he, hp, hF⟩ => ⟨he, h.stepP hp hF, (h.stepP hp hF).cell 2 v hv, hF⟩
theorem rclose_both {P B Q D : Nat} (b : Bool) (s1 s2 : St) (cs : Array Value) (w : World) (h : Both w P B Q D (.cells cs 42) s1 s2) (hr : s2.r < 4611686018427387904) (ht : s2.t < 4611686018427387904) (v : Value) (hv : cs[2]? = some v) :
    Calls Try.prog 20 #[.pointer (some ⟨Q, 0, none⟩), .bool b] w fun e w' => e = .returned (.int .i64 (s2.closeErr b)) ∧ Both w' P B Q D (.cells cs 42) s1 (s2.closed b) ∧ w'.cell? ⟨D, 2, none⟩ = some v ∧ Frame Q Q w w' :=
  (rclose_any b w h.q hr ht).mono fun _ _ ⟨he, hp, hF⟩ => ⟨he, h.stepQ hp hF, (h.stepQ hp hF).cell 2 v hv, hF⟩

theorem read_g {P B : Nat} {s : St} (n : Int) (R : ByteArray) (ev : Int) (s' : St) (hg : Hid ((⟨(if s.readErr n = 0 then s.got n else []).toArray⟩ : ByteArray) = R ∧ s.readErr n = ev ∧ (if s.readErr n = 0 then s.read n else s) = s'))
    (w : World) (h : PipeAt w P B s) (hb : n ≤ 9223372036854775807) :
    Calls Try.prog 13 #[.pointer (some ⟨P, 0, none⟩), .int .i64 n] w fun e w' => e = .returned (.tuple #[.string R, .int .i64 ev]) ∧ PipeAt w' P B s' ∧ Frame P B w w' := by
  obtain ⟨rfl, rfl, rfl⟩ := hg.out
  exact read_any n w h hb

theorem rread_g {Q : Nat} {s : St} (n : Int) (R : ByteArray) (ev : Int) (s' : St) (hg : Hid ((⟨(if s.readErr n = 0 then s.got n else []).toArray⟩ : ByteArray) = R ∧ s.readErr n = ev ∧ (if s.readErr n = 0 then s.read n else s) = s'))
    (w : World) (h : RefAt w Q s) (hok : s.ok) (hb : n ≤ 9223372036854775807) :
    Calls Try.prog 22 #[.pointer (some ⟨Q, 0, none⟩), .int .i64 n] w fun e w' => e = .returned (.tuple #[.string R, .int .i64 ev]) ∧ RefAt w' Q s' ∧ Frame Q Q w w' := by
  obtain ⟨rfl, rfl, rfl⟩ := hg.out
  exact rread_any n w h hok hb

theorem read_same (s : St) (n : Int) : ∃ (R : ByteArray) (ev : Int) (s' : St), Hid ((⟨(if s.readErr n = 0 then s.got n else []).toArray⟩ : ByteArray) = R ∧ s.readErr n = ev ∧ (if s.readErr n = 0 then s.read n else s) = s') ∧ s'.size = s.size ∧ s'.r = s.r ∧ s'.t = s.t :=
  ⟨_, _, _, ⟨rfl, rfl, rfl⟩, by split <;> rfl, by split <;> rfl, by split <;> rfl⟩

set_option maxRecDepth 100000 in
set_option maxHeartbeats 4000000 in
theorem pipeRuns_walk (size : Int) (A : Option Addr) (len cap : Nat) (w : World) (hA : CallsAt w.heap.size w A len) (hlen : len ≤ maxLen) :
    Calls Try.prog 3 #[.int .i64 size, .slice A len cap] w fun e w' => e = .returned (.bool true) ∧ Below w.heap.size w w' := by
  unfold maxLen at hlen
  have hAH := Lib.hid hA
  clear hA
  by_cases hsz : size < 1 ∨ 65536 < size
  · go_enter Try.func3, Try.ntmps3
    go_wp2_with (first
      | (go_at_call 9; refine (awake_any w).mono ?_; rintro e w1 ⟨rfl, hB1⟩)
      | (go_at_call 10; refine (new_no _ hsz _).mono ?_; rintro e w2 ⟨rfl, rfl⟩)
      | (go_at_call 11; refine (rnew_no _ hsz _).mono ?_; rintro e w2 ⟨rfl, rfl⟩)
      | (go_at_call 12; refine (write_nil _ _).mono ?_; rintro e w2 ⟨rfl, rfl⟩)
      | (go_at_call 13; refine (read_nil _ _).mono ?_; rintro e w2 ⟨rfl, rfl⟩)
      | (go_at_call 14; refine (ends_nil _).mono ?_; rintro e w2 ⟨rfl, rfl⟩)
      | (go_at_call 15; refine (open_nil _ _).mono ?_; rintro e w2 ⟨rfl, rfl⟩)
      | (go_at_call 16; refine (close_nil _ _).mono ?_; rintro e w2 ⟨rfl, rfl⟩)
      | (go_at_call 17; refine (len_nil _).mono ?_; rintro e w2 ⟨rfl, rfl⟩)
      | (go_at_call 18; refine (waits_nil _ _).mono ?_; rintro e w2 ⟨rfl, rfl⟩))
    go_ret
    exact ⟨rfl, hB1⟩
  · obtain ⟨n, rfl⟩ := Int.eq_ofNat_of_zero_le (show 0 ≤ size by omega)
    have h0 : 0 < n := by omega
    have h1 : n ≤ 65536 := by omega
    clear hsz
    go_enter Try.func3, Try.ntmps3
    go_wp2_with fail
    refine (awake_any w).mono ?_
    rintro e w1 ⟨rfl, hB1⟩
    go_wp2_with fail
    refine (new_yes n h0 h1 w1).mono ?_
    rintro e w2 ⟨rfl, hP2, hB2⟩
    obtain ⟨P, hP⟩ : ∃ P, P = w1.heap.size + 2 := ⟨_, rfl⟩
    obtain ⟨B, hB⟩ : ∃ B, B = w1.heap.size + 1 := ⟨_, rfl⟩
    rw [← hP, ← hB] at hP2
    rw [← hP]
    have hs1 := hB1.size
    have hPw : w.heap.size ≤ P := by omega
    have hBw : w.heap.size ≤ B := by omega
    have hBel2 := hB1.trans (hB2.mono hs1)
    clear hP hB hB1 hB2 hs1
    have hPH := Lib.hid hP2
    have hlP := hP2.ltP
    have hlB := hP2.ltB
    clear hP2
    go_wp2_with fail
    refine (rnew_yes n h0 h1 w2).mono ?_
    rintro e w3 ⟨rfl, hQ3, hB3⟩
    have hs2 := hBel2.size
    obtain ⟨Q, hQ⟩ : ∃ Q, Q = w2.heap.size := ⟨_, rfl⟩
    rw [← hQ] at hQ3
    rw [← hQ]
    have hQP : Q ≠ P := by omega
    have hQB : Q ≠ B := by omega
    have hQw : w.heap.size ≤ Q := by omega
    have hP3 := hPH.out.keep (w' := w3) ⟨hB3.block P hlP, hB3.block B hlB⟩
    have hBel3 := hBel2.trans (hB3.mono hs2)
    have hPH3 := Lib.hid hP3
    have hQH3 := Lib.hid hQ3
    clear hQ hPH hlP hlB hB3 hP3 hQ3 hBel2 hs2
    go_wp2_with fail
    go_loopw [107] (fun i wr => ∃ k : Nat, k ≤ len ∧ k ≤ 200 ∧ i = .int .i64 k ∧ (∃ s : St, PipeAt wr P B s ∧ RefAt wr Q s ∧ s.size = n ∧ s.r ≤ k ∧ s.t ≤ k) ∧ Below w.heap.size w wr) (fun i _ => len - (intOf i).toNat)
    case atStart => exact ⟨0, Nat.zero_le _, Nat.zero_le _, rfl, ⟨_, hPH3.out, hQH3.out, rfl, Nat.le_refl _, Nat.le_refl _⟩, hBel3⟩
    case round =>
      obtain ⟨k, hk, hk2, rfl, ⟨s, hP, hQ, hsn, hr, ht⟩, hF⟩ := hrel
      have hltP := hP.ltP
      have hltB := hP.ltB
      have hltQ := hQ.lt
      have hPQ := Lib.hid (And.intro hP hQ)
      have hok := Lib.hid hP.ok
      clear hP hQ hPH3 hQH3 hBel3
      by_cases hkl : k < len
      · by_cases hk3 : k = 200
        · as_aux_lemma =>
          obtain ⟨b, off, c, v, wr', t, rfl, hb, e0, e1, e2, e3, hv, hts⟩ := (hAH.out.below hF) k hkl
          subst hk3
          go_wp2
          go_ret
          exact ⟨rfl, hF.alloc hF.size _⟩
        · obtain ⟨b, off, c, v, wr', t, rfl, hb, e0, e1, e2, e3, hv, hts⟩ := (hAH.out.below hF) k hkl
          have hk4 : k < 200 := by omega
          have hk5 : ((k : Int) == 200) = false := by simp; omega
          have hsr : s.r < 4611686018427387904 := by omega
          have hst : s.t < 4611686018427387904 := by omega
          have hsn' := Lib.hid hsn
          have hBo : Hid (Both (wr.alloc (.cells #[.int .i64 c, .int .i64 v, .bool wr', .string t] 42)) P B Q wr.heap.size (.cells #[.int .i64 c, .int .i64 v, .bool wr', .string t] 42) s s) :=
            ⟨hPQ.out.1.keep ⟨Below.heap_alloc _ _ _ hltP, Below.heap_alloc _ _ _ hltB⟩, hPQ.out.2.keep (Below.heap_alloc _ _ _ hltQ), hQP, hQB, heap_new _ _, by omega, by omega, by omega⟩
          have hFa : Below w.heap.size w (wr.alloc (.cells #[.int .i64 c, .int .i64 v, .bool wr', .string t] 42)) := hF.alloc hF.size _
          have hSa : (wr.alloc (.cells #[.int .i64 c, .int .i64 v, .bool wr', .string t] 42)).heap.size = wr.heap.size + 1 := by simp
          have hFs := hF.size
          clear hsn
          go_upto_block 2 with fail
          generalize hW : wr.alloc (.cells #[.int .i64 c, .int .i64 v, .bool wr', .string t] 42) = W at hBo hFa hSa ⊢
          have hHW := Lib.hid hW
          have hSa' := Lib.hid hSa
          have hWs : w.heap.size ≤ W.heap.size := hFa.size
          clear hW hSa
          go_cut [] (fun wx => (∃ s' : St, Both wx P B Q wr.heap.size (.cells #[.int .i64 c, .int .i64 v, .bool wr', .string t] 42) s' s' ∧ s'.size = n ∧ s'.r ≤ k + 1 ∧ s'.t ≤ k + 1) ∧ Below w.heap.size w wx)
          case first =>
            have hc2 := hBo.out.cell 2 _ rfl
            have hc3 := hBo.out.cell 3 _ rfl
            have hc1 := hBo.out.cell 1 _ rfl
            by_cases c0 : c = 0
            · as_aux_lemma =>
                subst c0
                go_wp2_with fail
                refine (open_any wr' _ hBo.out.p hsr hst).mono ?_
                rintro e w4 ⟨rfl, hP4, hF4⟩
                have hB4 := Lib.hid (hBo.out.stepP hP4 hF4)
                have hc4 := hB4.out.cell 2 _ rfl
                have hs4 := hF4.size
                clear hP4
                go_wp2_with fail
                refine (ropen_any wr' _ hB4.out.q hsr hst).mono ?_
                rintro e w5 ⟨rfl, hQ5, hF5⟩
                have hB5 := Lib.hid (hB4.out.stepQ hQ5 hF5)
                clear hQ5
                go_wp2_with fail
                go_meet
                exact ⟨⟨_, hB5.out, by cases wr' <;> exact hsn'.out, by cases wr' <;> simp [St.opened] <;> omega, by cases wr' <;> simp [St.opened] <;> omega⟩, (hFa.trans (hF4.below hWs hPw hBw)).trans (hF5.below (by omega) hQw hQw)⟩
            · by_cases c1 : c = 1
              · subst c1
                have hBd : Both W.drew P B Q wr.heap.size (.cells #[.int .i64 1, .int .i64 v, .bool wr', .string t] 42) s s := hBo.out.keep rfl
                have hdz : W.drew.heap.size = W.heap.size := rfl
                have hBdH := Lib.hid hBd
                have hFd : Below w.heap.size w W.drew := hFa.drew
                clear hBd hdz
                go_wp2_with fail
                go_region_with (first
                  | (go_at_call 16; first
                      | with_reducible refine (close_both (B := B) (Q := Q) (D := wr.heap.size) wr' s s #[.int .i64 1, .int .i64 v, .bool wr', .string t] _ hBdH.out hsr hst (.bool wr') rfl).mono ?_
                      | with_reducible refine (close_both (B := B) (Q := Q) (D := wr.heap.size) wr' s (s.closed wr') #[.int .i64 1, .int .i64 v, .bool wr', .string t] _ hb5 hsr hst (.bool wr') rfl).mono ?_
                     rintro e w4 ⟨rfl, hb4, hc4, hF4⟩)
                  | (go_at_call 20; first
                      | with_reducible refine (rclose_both (P := P) (B := B) (D := wr.heap.size) wr' s s #[.int .i64 1, .int .i64 v, .bool wr', .string t] _ hBdH.out hsr hst (.bool wr') rfl).mono ?_
                      | with_reducible refine (rclose_both (P := P) (B := B) (D := wr.heap.size) wr' (s.closed wr') s #[.int .i64 1, .int .i64 v, .bool wr', .string t] _ hb4 hsr hst (.bool wr') rfl).mono ?_
                     rintro e w5 ⟨rfl, hb5, hc5, hF5⟩))
                all_goals
                  go_wp2
                  go_meet
                  first
                    | exact ⟨⟨_, hb5, by cases wr' <;> exact hsn'.out, by cases wr' <;> simp [St.closed] <;> omega, by cases wr' <;> simp [St.closed] <;> omega⟩, (hFd.trans (hF4.below hWs hPw hBw)).trans (hF5.below (Nat.le_trans hWs hF4.size) hQw hQw)⟩
                    | exact ⟨⟨_, hb4, by cases wr' <;> exact hsn'.out, by cases wr' <;> simp [St.closed] <;> omega, by cases wr' <;> simp [St.closed] <;> omega⟩, (hFd.trans (hF5.below hWs hQw hQw)).trans (hF4.below (Nat.le_trans hWs hF5.size) hPw hBw)⟩
              · by_cases c2 : c = 2
                · as_aux_lemma =>
                    subst c2
                    go_wp2_with fail
                    refine (write_any t _ hBo.out.p hts).mono ?_
                    rintro e w4 ⟨rfl, hP4, hF4⟩
                    have hB4 := Lib.hid (hBo.out.stepP hP4 hF4)
                    have hc4 := hB4.out.cell 3 _ rfl
                    have hs4 := hF4.size
                    clear hP4
                    go_wp2_with fail
                    refine (rwrite_any t _ hB4.out.q hok.out hts).mono ?_
                    rintro e w5 ⟨rfl, hQ5, hF5⟩
                    have hB5 := Lib.hid (hB4.out.stepQ hQ5 hF5)
                    clear hQ5
                    go_wp2_with fail
                    go_meet
                    exact ⟨⟨_, hB5.out, hsn'.out, by simp [St.written]; omega, by simp [St.written]; omega⟩, (hFa.trans (hF4.below hWs hPw hBw)).trans (hF5.below (by omega) hQw hQw)⟩
                · by_cases c3 : c = 3
                  · as_aux_lemma =>
                      subst c3
                      obtain ⟨R, ev, s3, hg, z1, z2, z3⟩ := read_same s v
                      have hz := Lib.hid (And.intro z1 (And.intro z2 z3))
                      clear z1 z2 z3
                      go_wp2_with fail
                      refine (read_g v R ev s3 hg _ hBo.out.p hv.2).mono ?_
                      rintro e w4 ⟨rfl, hP4, hF4⟩
                      have hB4 := Lib.hid (hBo.out.stepP hP4 hF4)
                      have hc4 := hB4.out.cell 1 _ rfl
                      have hs4 := hF4.size
                      clear hP4
                      go_wp2_with fail
                      refine (rread_g v R ev s3 hg _ hB4.out.q hok.out hv.2).mono ?_
                      rintro e w5 ⟨rfl, hQ5, hF5⟩
                      have hB5 := Lib.hid (hB4.out.stepQ hQ5 hF5)
                      clear hQ5
                      go_wp2_with fail
                      go_meet
                      exact ⟨⟨_, hB5.out, hz.out.1.trans hsn'.out, by rw [hz.out.2.1]; omega, by rw [hz.out.2.2]; omega⟩, (hFa.trans (hF4.below hWs hPw hBw)).trans (hF5.below (by omega) hQw hQw)⟩
                  · as_aux_lemma =>
                      have c0' : (c == 0) = false := by simpa using c0
                      have c1' : (c == 1) = false := by simpa using c1
                      have c2' : (c == 2) = false := by simpa using c2
                      have c3' : (c == 3) = false := by simpa using c3
                      go_wp2
                      go_meet
                      exact ⟨⟨_, hBo.out, hsn'.out, by omega, by omega⟩, hFa⟩
          case rest =>
            obtain ⟨⟨s', hB', hn', hr', ht'⟩, hF'⟩ := hcut
            have hBH := Lib.hid hB'
            clear hB'
            go_wp2_with fail
            refine (endsOf_any _ hBH.out.p).mono ?_
            rintro e w7 ⟨rfl, m, hw⟩
            have hB7 : Both w7 P B Q wr.heap.size (.cells #[.int .i64 c, .int .i64 v, .bool wr', .string t] 42) s' s' := hBH.out.keep (by rw [hw]; rfl)
            have hF7 : Below w.heap.size w w7 := by rw [hw]; exact below_drewN hF' m
            have hDp := Lib.hid (fun (W : World) (hk : W.heap = w7.heap) => (hB7.keep hk).p)
            have hDq := Lib.hid (fun (W : World) (hk : W.heap = w7.heap) => (hB7.keep hk).q)
            obtain ⟨DD, hDD⟩ : ∃ DD : ByteArray, ⟨s'.data.toArray⟩ = DD := ⟨_, rfl⟩
            have q1 := hB7.q.c1
            have q2 := hB7.q.c2
            have q3 := hB7.q.c3
            rw [hDD] at q3
            have hDs : DD.size = s'.data.length := by rw [← hDD]; rfl
            clear hB7 hDD hw hBH
            go_upto_region 35 with fail
            go_quiet ((first
              | (go_at_call 17; exact Calls.quiet_of_same (len_any _ (by exact hDp.out _ (by rfl))))
              | (go_at_call 18; exact Calls.quiet_of (waits_any _ _ (by exact hDp.out _ (by rfl))))
              | (go_at_call 23; exact Calls.quiet_of (rwaits_any _ _ (by exact hDq.out _ (by rfl))))))
            go_wp2
            go_roundw
            case rel => exact ⟨k + 1, by omega, by omega, by go_num, ⟨s', hDp.out _ rfl, hDq.out _ rfl, hn', hr', ht'⟩, below_drewN hF7 _⟩
            case measure => simp [intOf]; omega
      · go_wp2
        go_ret
        exact ⟨rfl, hF⟩
end Go.Proofs.Ytifoanmoadogoaa
