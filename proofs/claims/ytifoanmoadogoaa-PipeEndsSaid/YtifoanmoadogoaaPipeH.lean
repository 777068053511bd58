/- The walk of the law PipeEnds: true at every input. -/
import Derived.Test.YtifoanmoadogoaaPipeG
import Derived.Deep.DeepCutAuto
import Derived.Deep.CutBlock
namespace Go.Proofs.Ytifoanmoadogoaa
open Go.RowKit

theorem len_v {P B : Nat} {s : St} (v : Int) (hv : Hid ((s.data.length : Int) = v)) (w : World) (h : PipeAt w P B s) :
    Calls Try.prog 17 #[.pointer (some ⟨P, 0, none⟩)] w fun e w' => e = .returned (.int .i64 v) ∧ w' = w :=
  (len_any w h).mono fun e w' ⟨he, hw⟩ => ⟨by rw [he, hv.out], hw⟩

theorem write_v {P B : Nat} {s : St} (x : ByteArray) (v ev : Int) (hv : Hid ((s.wrote x.data.toList : Int) = v ∧ s.writeErr x.data.toList = ev)) (w : World) (h : PipeAt w P B s) (hs : x.size ≤ maxLen) :
    Calls Try.prog 12 #[.pointer (some ⟨P, 0, none⟩), .string x] w fun e w' => e = .returned (.tuple #[.int .i64 v, .int .i64 ev]) ∧ PipeAt w' P B (s.written x.data.toList) ∧ Frame P B w w' :=
  (write_any x w h hs).mono fun e w' ⟨he, hw⟩ => ⟨by rw [he, hv.out.1, hv.out.2], hw⟩

/-- What a Read gives: a text of z bytes, the error ev. -/
def GotText (P B : Nat) (s : St) (z ev : Int) (w : World) (e : Ending) (w' : World) : Prop :=
  ∃ (R : ByteArray) (s' : St), e = .returned (.tuple #[.string R, .int .i64 ev]) ∧ (R.size : Int) = z ∧ PipeAt w' P B s' ∧ s'.size = s.size ∧ s'.r = s.r ∧ s'.t = s.t ∧ (s'.data.length : Int) = s.data.length - z ∧ Frame P B w w'

theorem read_v {P B : Nat} {s : St} (n z ev : Int) (hz : Hid (s.readErr n = ev ∧ z = if ev = 0 then min (n.toNat : Int) s.data.length else 0)) (w : World) (h : PipeAt w P B s) (hb : n ≤ 9223372036854775807) :
    Calls Try.prog 13 #[.pointer (some ⟨P, 0, none⟩), .int .i64 n] w (GotText P B s z ev w) := by
  obtain ⟨h1, h2⟩ := hz.out
  refine (read_any n w h hb).mono ?_
  rintro e w' ⟨he, hP, hF⟩
  rw [h1] at he hP
  by_cases hev : ev = 0
  · rw [if_pos hev] at h2 hP
    rw [if_pos hev] at he
    refine ⟨_, _, he, ?_, hP, rfl, rfl, rfl, ?_, hF⟩
    · rw [h2]; simp [ByteArray.size, St.got]; omega
    · rw [h2]; simp [St.read]; omega
  · rw [if_neg hev] at h2 hP
    rw [if_neg hev] at he
    exact ⟨_, _, he, by rw [h2]; rfl, hP, rfl, rfl, rfl, by omega, hF⟩

theorem w_t1 {s : St} (h : 0 < s.r) (g : s.data.length = s.size) : s.waits true = true := by simp [St.waits, h, g]
theorem w_t0 {s : St} (h : ¬ 0 < s.r ∨ s.data.length ≠ s.size) : s.waits true = false := by
  rcases h with h | h <;> simp [St.waits, h]
theorem w_f1 {s : St} (h : 0 < s.t) (g : s.data.length = 0) : s.waits false = true := by simp [St.waits, h, g]
theorem w_f0 {s : St} (h : ¬ 0 < s.t ∨ s.data.length ≠ 0) : s.waits false = false := by
  rcases h with h | h <;> simp [St.waits, h]

set_option maxRecDepth 100000 in
set_option maxHeartbeats 16000000 in
theorem pipeEnds_walk (size : Int) (A : Option Addr) (len cap : Nat) (w : World) (hA : CallsAt w.heap.size w A len) (hlen : len ≤ maxLen) :
    Calls Try.prog 5 #[.int .i64 size, .slice A len cap] w fun e w' => e = .returned (.bool true) ∧ Below w.heap.size w w' := by
  unfold maxLen at hlen
  have hAH := Lib.hid hA
  clear hA
  by_cases hsz : size < 1 ∨ 65536 < size
  · by_cases hs1 : size < 1
    · as_aux_lemma =>
        go_enter Try.func5, Try.ntmps5
        go_wp2_with (first
          | (go_at_call 9; refine (awake_any w).mono ?_; rintro e w1 ⟨rfl, hB1⟩)
          | (go_at_call 10; refine (new_no _ (.inl hs1) _).mono ?_; rintro e w2 ⟨rfl, rfl⟩))
        go_ret
        exact ⟨rfl, hB1⟩
    · as_aux_lemma =>
        have hs2 : 65536 < size := by omega
        go_enter Try.func5, Try.ntmps5
        go_wp2_with (first
          | (go_at_call 9; refine (awake_any w).mono ?_; rintro e w1 ⟨rfl, hB1⟩)
          | (go_at_call 10; refine (new_no _ (.inr hs2) _).mono ?_; rintro e w2 ⟨rfl, rfl⟩))
        go_ret
        exact ⟨rfl, hB1⟩
  · obtain ⟨n, rfl⟩ := Int.eq_ofNat_of_zero_le (show 0 ≤ size by omega)
    have h0 : 0 < n := by omega
    have h1 : n ≤ 65536 := by omega
    clear hsz
    go_enter Try.func5, Try.ntmps5
    go_wp2_with fail
    refine (awake_any w).mono ?_
    rintro e w1 ⟨rfl, hB1⟩
    go_wp2_with fail
    refine (new_yes n h0 h1 w1).mono ?_
    rintro e w2 ⟨rfl, hP2, hB2⟩
    have hPH := Lib.hid hP2
    clear hP2
    go_wp2_with fail
    obtain ⟨P, hP⟩ : ∃ P, P = w1.heap.size + 2 := ⟨_, rfl⟩
    obtain ⟨B, hB⟩ : ∃ B, B = w1.heap.size + 1 := ⟨_, rfl⟩
    rw [← hP, ← hB] at hPH
    rw [← hP]
    have hs1 := hB1.size
    have hPw : w.heap.size ≤ P := by omega
    have hBw : w.heap.size ≤ B := by omega
    have hBel := hB1.trans (hB2.mono hs1)
    clear hP hB hB1 hB2 hs1
    go_loopw [35] (fun i wr => ∃ k : Nat, k ≤ len ∧ k ≤ 200 ∧ i = .int .i64 k ∧ (∃ s : St, PipeAt wr P B s ∧ s.size = n ∧ s.r ≤ k ∧ s.t ≤ k) ∧ Below w.heap.size w wr) (fun i _ => len - (intOf i).toNat)
    case atStart => exact ⟨0, Nat.zero_le _, Nat.zero_le _, rfl, ⟨_, hPH.out, rfl, Nat.le_refl _, Nat.le_refl _⟩, hBel⟩
    case round =>
      obtain ⟨k, hk, hk2, rfl, ⟨s, hP, hsn, hr, ht⟩, hF⟩ := hrel
      have hPs := Lib.hid hP
      clear hP hPH hBel
      by_cases hkl : k < len
      · by_cases hk3 : k = 200
        · as_aux_lemma =>
            obtain ⟨b, off, c, v, wr', t, rfl, hb, e0, e1, e2, e3, hv, hts⟩ := (hAH.out.below hF) k hkl
            subst hk3
            go_wp2
            go_ret
            exact ⟨rfl, hF.alloc hF.size _⟩
        · obtain ⟨b, off, c, v, wr', t, rfl, hb, e0, e1, e2, e3, hv, hts⟩ := (hAH.out.below hF) k hkl
          have hk4 : k < 200 := by omega
          have hk5 : ((k : Int) == 200) = false := by simp; omega
          have hltP := hPs.out.ltP
          have hltB := hPs.out.ltB
          have hPa : Hid (PipeAt (wr.alloc (.cells #[.int .i64 c, .int .i64 v, .bool wr', .string t] 42)) P B s) := hPs.out.keep ⟨Below.heap_alloc _ _ _ hltP, Below.heap_alloc _ _ _ hltB⟩
          have hsr : s.r < 4611686018427387904 := by omega
          have hst : s.t < 4611686018427387904 := by omega
          have hsn' := Lib.hid hsn
          have hkk := Lib.hid hk5
          clear hsn
          go_upto_block 2 with fail
          go_cut [] (fun wx => (∃ s : St, PipeAt wx P B s ∧ s.size = n ∧ s.r ≤ k + 1 ∧ s.t ≤ k + 1) ∧ Frame P B (wr.alloc (.cells #[.int .i64 c, .int .i64 v, .bool wr', .string t] 42)) wx)
          case first =>
            by_cases c0 : c = 0
            · as_aux_lemma =>
                subst c0
                go_wp2_with (go_at_call 15; refine (open_any wr' _ hPa.out hsr hst).mono ?_; rintro e w' ⟨rfl, hP', hF'⟩)
                go_meet
                exact ⟨⟨_, hP', by cases wr' <;> exact hsn'.out, by cases wr' <;> simp [St.opened] <;> omega, by cases wr' <;> simp [St.opened] <;> omega⟩, hF'⟩
            · by_cases c1 : c = 1
              · as_aux_lemma =>
                  subst c1
                  go_wp2_with (go_at_call 16; refine (close_any wr' _ hPa.out hsr hst).mono ?_; rintro e w' ⟨rfl, hP', hF'⟩)
                  go_meet
                  exact ⟨⟨_, hP', by cases wr' <;> exact hsn'.out, by cases wr' <;> simp [St.closed] <;> omega, by cases wr' <;> simp [St.closed] <;> omega⟩, hF'⟩
              · as_aux_lemma =>
                  have c0' : (c == 0) = false := by simpa using c0
                  have c1' : (c == 1) = false := by simpa using c1
                  go_wp2
                  go_meet
                  exact ⟨⟨_, hPa.out, hsn'.out, by omega, by omega⟩, Frame.refl _ _ _⟩
          case rest =>
            obtain ⟨⟨s', hP', hn', hr', ht'⟩, hF'⟩ := hcut
            have hD := Lib.hid (fun m => hP'.keep (w' := wc.drewN m) ⟨rfl, rfl⟩)
            have hok := hP'.ok
            have hn2 := Lib.hid hn'
            clear hP' hn'
            go_upto_region 17 with (first
              | (go_at_call 14; refine (endsOf_any _ (hD.out 0)).mono ?_; rintro e w' ⟨rfl, m, rfl⟩)
              | (go_at_call 17; refine (len_any _ (hD.out _)).mono ?_; rintro e w' ⟨rfl, rfl⟩))
            go_cut [11, 83] (fun s11 s83 wx => s11 = .int .i64 s'.data.length ∧ s83 = .bool false ∧ ∃ m, wx = wc.drewN m)
            case first =>
              rcases (show s'.data.length = n ∨ s'.data.length = 0 ∨ (s'.data.length ≠ n ∧ s'.data.length ≠ 0) by omega) with hL0 | hL0 | hL0 <;> by_cases hr1 : 0 < s'.r <;> by_cases ht1 : 0 < s'.t
              · as_aux_lemma =>
                  have hns := hn2.out
                  have hw1 := w_t1 hr1 (by omega)
                  have hw2 := w_f0 (s := s') (.inr (by omega))
                  have hLn : ((n : Int) == 0) = false := by simp; omega
                  have hLH := Lib.hid hL0
                  rw [hL0]
                  clear hL0
                  clear hns
                  go_wp2_with (go_at_call 18; refine (waits_any _ _ (hD.out _)).mono ?_; rintro e w' ⟨rfl, q, rfl⟩)
                  go_meet
                  exact ⟨by rw [hLH.out], rfl, _, rfl⟩
              · as_aux_lemma =>
                  have hns := hn2.out
                  have hw1 := w_t1 hr1 (by omega)
                  have hw2 := w_f0 (.inl ht1)
                  have hLn : ((n : Int) == 0) = false := by simp; omega
                  have ht2 : decide ((0 : Int) < s'.t) = false := by simp; omega
                  have hLH := Lib.hid hL0
                  rw [hL0]
                  clear hL0
                  clear hns
                  go_wp2_with (go_at_call 18; refine (waits_any _ _ (hD.out _)).mono ?_; rintro e w' ⟨rfl, q, rfl⟩)
                  go_meet
                  exact ⟨by rw [hLH.out], rfl, _, rfl⟩
              · as_aux_lemma =>
                  have hns := hn2.out
                  have hw1 := w_t0 (.inl hr1)
                  have hw2 := w_f0 (s := s') (.inr (by omega))
                  have hLn : ((n : Int) == 0) = false := by simp; omega
                  have hr2 : decide ((0 : Int) < s'.r) = false := by simp; omega
                  have hLH := Lib.hid hL0
                  rw [hL0]
                  clear hL0
                  clear hns
                  go_wp2_with (go_at_call 18; refine (waits_any _ _ (hD.out _)).mono ?_; rintro e w' ⟨rfl, q, rfl⟩)
                  go_meet
                  exact ⟨by rw [hLH.out], rfl, _, rfl⟩
              · as_aux_lemma =>
                  have hns := hn2.out
                  have hw1 := w_t0 (.inl hr1)
                  have hw2 := w_f0 (.inl ht1)
                  have hLn : ((n : Int) == 0) = false := by simp; omega
                  have hr2 : decide ((0 : Int) < s'.r) = false := by simp; omega
                  have ht2 : decide ((0 : Int) < s'.t) = false := by simp; omega
                  have hLH := Lib.hid hL0
                  rw [hL0]
                  clear hL0
                  clear hns
                  go_wp2_with (go_at_call 18; refine (waits_any _ _ (hD.out _)).mono ?_; rintro e w' ⟨rfl, q, rfl⟩)
                  go_meet
                  exact ⟨by rw [hLH.out], rfl, _, rfl⟩
              · as_aux_lemma =>
                  have hns := hn2.out
                  have hw1 := w_t0 (s := s') (.inr (by omega))
                  have hw2 := w_f1 ht1 hL0
                  have hLn : ((0 : Int) == n) = false := by simp; omega
                  have hLH := Lib.hid hL0
                  rw [hL0]
                  clear hL0
                  clear hns
                  go_wp2_with (go_at_call 18; refine (waits_any _ _ (hD.out _)).mono ?_; rintro e w' ⟨rfl, q, rfl⟩)
                  go_meet
                  exact ⟨by rw [hLH.out]; rfl, rfl, _, rfl⟩
              · as_aux_lemma =>
                  have hns := hn2.out
                  have hw1 := w_t0 (s := s') (.inr (by omega))
                  have hw2 := w_f0 (.inl ht1)
                  have hLn : ((0 : Int) == n) = false := by simp; omega
                  have ht2 : decide ((0 : Int) < s'.t) = false := by simp; omega
                  have hLH := Lib.hid hL0
                  rw [hL0]
                  clear hL0
                  clear hns
                  go_wp2_with (go_at_call 18; refine (waits_any _ _ (hD.out _)).mono ?_; rintro e w' ⟨rfl, q, rfl⟩)
                  go_meet
                  exact ⟨by rw [hLH.out]; rfl, rfl, _, rfl⟩
              · as_aux_lemma =>
                  have hns := hn2.out
                  have hw1 := w_t0 (.inl hr1)
                  have hw2 := w_f1 ht1 hL0
                  have hLn : ((0 : Int) == n) = false := by simp; omega
                  have hr2 : decide ((0 : Int) < s'.r) = false := by simp; omega
                  have hLH := Lib.hid hL0
                  rw [hL0]
                  clear hL0
                  clear hns
                  go_wp2_with (go_at_call 18; refine (waits_any _ _ (hD.out _)).mono ?_; rintro e w' ⟨rfl, q, rfl⟩)
                  go_meet
                  exact ⟨by rw [hLH.out]; rfl, rfl, _, rfl⟩
              · as_aux_lemma =>
                  have hns := hn2.out
                  have hw1 := w_t0 (.inl hr1)
                  have hw2 := w_f0 (.inl ht1)
                  have hLn : ((0 : Int) == n) = false := by simp; omega
                  have hr2 : decide ((0 : Int) < s'.r) = false := by simp; omega
                  have ht2 : decide ((0 : Int) < s'.t) = false := by simp; omega
                  have hLH := Lib.hid hL0
                  rw [hL0]
                  clear hL0
                  clear hns
                  go_wp2_with (go_at_call 18; refine (waits_any _ _ (hD.out _)).mono ?_; rintro e w' ⟨rfl, q, rfl⟩)
                  go_meet
                  exact ⟨by rw [hLH.out]; rfl, rfl, _, rfl⟩
              · as_aux_lemma =>
                  have hns := hn2.out
                  have hw1 := w_t0 (s := s') (.inr (by omega))
                  have hw2 := w_f0 (s := s') (.inr (by omega))
                  have hx1 : ((s'.data.length : Int) == n) = false := by simp; omega
                  have hx2 : ((s'.data.length : Int) == 0) = false := beq_eq_false_iff_ne.2 (by omega)
                  clear hL0
                  clear hns
                  go_wp2_with (go_at_call 18; refine (waits_any _ _ (hD.out _)).mono ?_; rintro e w' ⟨rfl, q, rfl⟩)
                  go_meet
                  exact ⟨rfl, rfl, _, rfl⟩
              · as_aux_lemma =>
                  have hns := hn2.out
                  have hw1 := w_t0 (s := s') (.inr (by omega))
                  have hw2 := w_f0 (.inl ht1)
                  have ht2 : decide ((0 : Int) < s'.t) = false := by simp; omega
                  have hx1 : ((s'.data.length : Int) == n) = false := by simp; omega
                  have hx2 : ((s'.data.length : Int) == 0) = false := beq_eq_false_iff_ne.2 (by omega)
                  clear hL0
                  clear hns
                  go_wp2_with (go_at_call 18; refine (waits_any _ _ (hD.out _)).mono ?_; rintro e w' ⟨rfl, q, rfl⟩)
                  go_meet
                  exact ⟨rfl, rfl, _, rfl⟩
              · as_aux_lemma =>
                  have hns := hn2.out
                  have hw1 := w_t0 (.inl hr1)
                  have hw2 := w_f0 (s := s') (.inr (by omega))
                  have hr2 : decide ((0 : Int) < s'.r) = false := by simp; omega
                  have hx1 : ((s'.data.length : Int) == n) = false := by simp; omega
                  have hx2 : ((s'.data.length : Int) == 0) = false := beq_eq_false_iff_ne.2 (by omega)
                  clear hL0
                  clear hns
                  go_wp2_with (go_at_call 18; refine (waits_any _ _ (hD.out _)).mono ?_; rintro e w' ⟨rfl, q, rfl⟩)
                  go_meet
                  exact ⟨rfl, rfl, _, rfl⟩
              · as_aux_lemma =>
                  have hns := hn2.out
                  have hw1 := w_t0 (.inl hr1)
                  have hw2 := w_f0 (.inl ht1)
                  have hr2 : decide ((0 : Int) < s'.r) = false := by simp; omega
                  have ht2 : decide ((0 : Int) < s'.t) = false := by simp; omega
                  have hx1 : ((s'.data.length : Int) == n) = false := by simp; omega
                  have hx2 : ((s'.data.length : Int) == 0) = false := beq_eq_false_iff_ne.2 (by omega)
                  clear hL0
                  clear hns
                  go_wp2_with (go_at_call 18; refine (waits_any _ _ (hD.out _)).mono ?_; rintro e w' ⟨rfl, q, rfl⟩)
                  go_meet
                  exact ⟨rfl, rfl, _, rfl⟩
            case rest =>
              obtain ⟨rfl, rfl, m, rfl⟩ := hcut
              have hlt1 := hF'.size
              simp only [World.size_alloc] at hlt1
              have hblk := hF'.block wr.heap.size (by simp) (by omega) (by omega)
              have hnew := heap_new wr (.cells #[.int .i64 c, .int .i64 v, .bool wr', .string t] 42)
              rw [hnew] at hblk
              clear hnew
              have hc1 : wc.cell? ⟨wr.heap.size, 1, none⟩ = some (.int .i64 v) := by simp [World.cell?, hblk]
              have hc3 : wc.cell? ⟨wr.heap.size, 3, none⟩ = some (.string t) := by simp [World.cell?, hblk]
              have hc0 : wc.cell? ⟨wr.heap.size, 0, none⟩ = some (.int .i64 c) := by simp [World.cell?, hblk]
              have hblH := Lib.hid hblk
              clear hblk
              have hbel : Below w.heap.size w (wc.drewN m) := below_drewN ((hF.alloc hF.size _).trans (hF'.below (by simp; have := hF.size; omega) hPw hBw)) m
              by_cases c2 : c = 2
              · subst c2
                have hD2 := Lib.hid (hD.out m)
                have htl : t.data.toList.length = t.size := by simp
                have hbk := Lib.hid (show 0 < s'.size ∧ s'.size ≤ 65536 ∧ s'.data.length ≤ s'.size from hok)
                have hLn : s'.data.length ≤ n := by have := hbk.out; have := hn2.out; omega
                unfold maxLen at hts
                by_cases hr1 : s'.r = 0
                · have hr2 : ((s'.r : Int) == 0) = true := by simp [hr1]
                  have hwv0 : (s'.wrote t.data.toList : Int) = 0 ∧ s'.writeErr t.data.toList = 32 := ⟨by simp [St.wrote, hr1], by simp [St.writeErr, hr1]⟩
                  clear hr1
                  by_cases hcmp : (n : Int) - s'.data.length < t.size
                  · as_aux_lemma =>
                      have hwv : Hid ((s'.wrote t.data.toList : Int) = 0 ∧ s'.writeErr t.data.toList = 32) := hwv0
                      go_wp2_with fail
                      refine (write_v t _ _ hwv _ hD2.out hts).mono ?_
                      rintro e w4 ⟨rfl, hP4', hF4⟩
                      have hP4 := Lib.hid hP4'
                      clear hP4'
                      have hblk4 := hF4.block wr.heap.size (by simp; omega) (by omega) (by omega)
                      rw [World.heap_drewN, hblH.out] at hblk4
                      have hc14 : w4.cell? ⟨wr.heap.size, 1, none⟩ = some (.int .i64 v) := by simp [World.cell?, hblk4]
                      have hc34 : w4.cell? ⟨wr.heap.size, 3, none⟩ = some (.string t) := by simp [World.cell?, hblk4]
                      have hc04 : w4.cell? ⟨wr.heap.size, 0, none⟩ = some (.int .i64 2) := by simp [World.cell?, hblk4]
                      clear hblk4
                      have hlv : Hid (((s'.written t.data.toList).data.length : Int) = (s'.data.length : Int)) := by
                        show _ = _
                        have := hwv.out.1
                        have hle : s'.wrote t.data.toList ≤ t.data.toList.length := by unfold St.wrote; split <;> omega
                        simp only [St.written, List.length_append, List.length_take]
                        omega
                      go_wp2_with (go_at_call 17; refine (len_v _ hlv _ hP4.out).mono ?_; rintro e w' ⟨rfl, rfl⟩)
                      go_roundw
                      case rel => exact ⟨k + 1, by omega, by omega, by go_num, ⟨_, hP4.out, hn2.out, hr', ht'⟩, hbel.trans (hF4.below (by simp; have := hF.size; omega) hPw hBw)⟩
                      case measure => simp [intOf]; omega
                  · as_aux_lemma =>
                      have hwv : Hid ((s'.wrote t.data.toList : Int) = 0 ∧ s'.writeErr t.data.toList = 32) := hwv0
                      go_wp2_with fail
                      refine (write_v t _ _ hwv _ hD2.out hts).mono ?_
                      rintro e w4 ⟨rfl, hP4', hF4⟩
                      have hP4 := Lib.hid hP4'
                      clear hP4'
                      have hblk4 := hF4.block wr.heap.size (by simp; omega) (by omega) (by omega)
                      rw [World.heap_drewN, hblH.out] at hblk4
                      have hc14 : w4.cell? ⟨wr.heap.size, 1, none⟩ = some (.int .i64 v) := by simp [World.cell?, hblk4]
                      have hc34 : w4.cell? ⟨wr.heap.size, 3, none⟩ = some (.string t) := by simp [World.cell?, hblk4]
                      have hc04 : w4.cell? ⟨wr.heap.size, 0, none⟩ = some (.int .i64 2) := by simp [World.cell?, hblk4]
                      clear hblk4
                      have hlv : Hid (((s'.written t.data.toList).data.length : Int) = (s'.data.length : Int)) := by
                        show _ = _
                        have := hwv.out.1
                        have hle : s'.wrote t.data.toList ≤ t.data.toList.length := by unfold St.wrote; split <;> omega
                        simp only [St.written, List.length_append, List.length_take]
                        omega
                      go_wp2_with (go_at_call 17; refine (len_v _ hlv _ hP4.out).mono ?_; rintro e w' ⟨rfl, rfl⟩)
                      go_roundw
                      case rel => exact ⟨k + 1, by omega, by omega, by go_num, ⟨_, hP4.out, hn2.out, hr', ht'⟩, hbel.trans (hF4.below (by simp; have := hF.size; omega) hPw hBw)⟩
                      case measure => simp [intOf]; omega
                · have hr2 : ((s'.r : Int) == 0) = false := by simp; omega
                  have hr3 : 0 < s'.r := by omega
                  by_cases hcmp : (n : Int) - s'.data.length < t.size
                  · as_aux_lemma =>
                      obtain ⟨ev, hev⟩ : ∃ ev, s'.writeErr t.data.toList = ev := ⟨_, rfl⟩
                      have hev2 : (ev == 32) = false := by
                        rw [← hev]; unfold St.writeErr; rw [if_neg hr1]; split <;> (try split) <;> rfl
                      have hwv0 : (s'.wrote t.data.toList : Int) = (n : Int) - s'.data.length ∧ s'.writeErr t.data.toList = ev := by
                        refine ⟨?_, hev⟩
                        have := hn2.out
                        unfold St.wrote; rw [if_neg hr1, htl, this]; omega
                      clear hev hr1
                      have hwv : Hid ((s'.wrote t.data.toList : Int) = ((n : Int) - s'.data.length) ∧ s'.writeErr t.data.toList = ev) := hwv0
                      go_wp2_with fail
                      refine (write_v t _ _ hwv _ hD2.out hts).mono ?_
                      rintro e w4 ⟨rfl, hP4', hF4⟩
                      have hP4 := Lib.hid hP4'
                      clear hP4'
                      have hblk4 := hF4.block wr.heap.size (by simp; omega) (by omega) (by omega)
                      rw [World.heap_drewN, hblH.out] at hblk4
                      have hc14 : w4.cell? ⟨wr.heap.size, 1, none⟩ = some (.int .i64 v) := by simp [World.cell?, hblk4]
                      have hc34 : w4.cell? ⟨wr.heap.size, 3, none⟩ = some (.string t) := by simp [World.cell?, hblk4]
                      have hc04 : w4.cell? ⟨wr.heap.size, 0, none⟩ = some (.int .i64 2) := by simp [World.cell?, hblk4]
                      clear hblk4
                      have hlv : Hid (((s'.written t.data.toList).data.length : Int) = ((s'.data.length : Int) + ((n : Int) - s'.data.length))) := by
                        show _ = _
                        have := hwv.out.1
                        have hle : s'.wrote t.data.toList ≤ t.data.toList.length := by unfold St.wrote; split <;> omega
                        simp only [St.written, List.length_append, List.length_take]
                        omega
                      go_wp2_with (go_at_call 17; refine (len_v _ hlv _ hP4.out).mono ?_; rintro e w' ⟨rfl, rfl⟩)
                      go_roundw
                      case rel => exact ⟨k + 1, by omega, by omega, by go_num, ⟨_, hP4.out, hn2.out, hr', ht'⟩, hbel.trans (hF4.below (by simp; have := hF.size; omega) hPw hBw)⟩
                      case measure => simp [intOf]; omega
                  · as_aux_lemma =>
                      obtain ⟨ev, hev⟩ : ∃ ev, s'.writeErr t.data.toList = ev := ⟨_, rfl⟩
                      have hev2 : (ev == 32) = false := by
                        rw [← hev]; unfold St.writeErr; rw [if_neg hr1]; split <;> (try split) <;> rfl
                      have hwv0 : (s'.wrote t.data.toList : Int) = (t.size : Int) ∧ s'.writeErr t.data.toList = ev := by
                        refine ⟨?_, hev⟩
                        have := hn2.out
                        unfold St.wrote; rw [if_neg hr1, htl, this]; omega
                      clear hev hr1
                      have hwv : Hid ((s'.wrote t.data.toList : Int) = (t.size : Int) ∧ s'.writeErr t.data.toList = ev) := hwv0
                      go_wp2_with fail
                      refine (write_v t _ _ hwv _ hD2.out hts).mono ?_
                      rintro e w4 ⟨rfl, hP4', hF4⟩
                      have hP4 := Lib.hid hP4'
                      clear hP4'
                      have hblk4 := hF4.block wr.heap.size (by simp; omega) (by omega) (by omega)
                      rw [World.heap_drewN, hblH.out] at hblk4
                      have hc14 : w4.cell? ⟨wr.heap.size, 1, none⟩ = some (.int .i64 v) := by simp [World.cell?, hblk4]
                      have hc34 : w4.cell? ⟨wr.heap.size, 3, none⟩ = some (.string t) := by simp [World.cell?, hblk4]
                      have hc04 : w4.cell? ⟨wr.heap.size, 0, none⟩ = some (.int .i64 2) := by simp [World.cell?, hblk4]
                      clear hblk4
                      have hlv : Hid (((s'.written t.data.toList).data.length : Int) = ((s'.data.length : Int) + t.size)) := by
                        show _ = _
                        have := hwv.out.1
                        have hle : s'.wrote t.data.toList ≤ t.data.toList.length := by unfold St.wrote; split <;> omega
                        simp only [St.written, List.length_append, List.length_take]
                        omega
                      go_wp2_with (go_at_call 17; refine (len_v _ hlv _ hP4.out).mono ?_; rintro e w' ⟨rfl, rfl⟩)
                      go_roundw
                      case rel => exact ⟨k + 1, by omega, by omega, by go_num, ⟨_, hP4.out, hn2.out, hr', ht'⟩, hbel.trans (hF4.below (by simp; have := hF.size; omega) hPw hBw)⟩
                      case measure => simp [intOf]; omega
              · by_cases c3 : c = 3
                · subst c3
                  have hD2 := Lib.hid (hD.out m)
                  have hbk := Lib.hid (show 0 < s'.size ∧ s'.size ≤ 65536 ∧ s'.data.length ≤ s'.size from hok)
                  have hLn : s'.data.length ≤ n := by have := hbk.out; have := hn2.out; omega
                  clear hok
                  by_cases hv0 : v < 0
                  · as_aux_lemma =>
                      have hz : Hid (s'.readErr v = 22 ∧ (0 : Int) = if (22 : Int) = 0 then min (v.toNat : Int) s'.data.length else 0) := ⟨by simp [St.readErr, hv0], rfl⟩
                      go_wp2_with fail
                      refine (read_v v _ _ hz _ hD2.out hv.2).mono ?_
                      rintro e w4 ⟨R, s4, rfl, hR, hP4', q1, q2, q3, q4, hF4⟩
                      have hP4 := Lib.hid hP4'
                      have hq1 := Lib.hid q1
                      have hq2 := Lib.hid q2
                      have hq3 := Lib.hid q3
                      have hlv : Hid ((s4.data.length : Int) = s'.data.length) := by
                        show _ = _
                        omega
                      clear hP4' q1 q2 q3 q4
                      have hblk4 := hF4.block wr.heap.size (by simp; omega) (by omega) (by omega)
                      rw [World.heap_drewN, hblH.out] at hblk4
                      have hc14 : w4.cell? ⟨wr.heap.size, 1, none⟩ = some (.int .i64 v) := by simp [World.cell?, hblk4]
                      have hc34 : w4.cell? ⟨wr.heap.size, 3, none⟩ = some (.string t) := by simp [World.cell?, hblk4]
                      have hc04 : w4.cell? ⟨wr.heap.size, 0, none⟩ = some (.int .i64 3) := by simp [World.cell?, hblk4]
                      clear hblk4
                      go_wp2_with (go_at_call 17; refine (len_v _ hlv _ hP4.out).mono ?_; rintro e w' ⟨rfl, rfl⟩)
                      go_roundw
                      case rel => exact ⟨k + 1, by omega, by omega, by go_num, ⟨_, hP4.out, hq1.out.trans hn2.out, by rw [hq2.out]; exact hr', by rw [hq3.out]; exact ht'⟩, hbel.trans (hF4.below (by simp; have := hF.size; omega) hPw hBw)⟩
                      case measure => simp [intOf]; omega
                  · by_cases hv1 : v = 0
                    · as_aux_lemma =>
                        subst hv1
                        have hz : Hid (s'.readErr 0 = 0 ∧ (0 : Int) = if (0 : Int) = 0 then min ((0 : Int).toNat : Int) s'.data.length else 0) := ⟨by simp [St.readErr], by rw [if_pos rfl]; omega⟩
                        go_wp2_with fail
                        refine (read_v 0 _ _ hz _ hD2.out (by decide)).mono ?_
                        rintro e w4 ⟨R, s4, rfl, hR, hP4', q1, q2, q3, q4, hF4⟩
                        have hP4 := Lib.hid hP4'
                        have hq1 := Lib.hid q1
                        have hq2 := Lib.hid q2
                        have hq3 := Lib.hid q3
                        have hlv : Hid ((s4.data.length : Int) = s'.data.length) := by
                          show _ = _
                          omega
                        clear hP4' q1 q2 q3 q4
                        have hblk4 := hF4.block wr.heap.size (by simp; omega) (by omega) (by omega)
                        rw [World.heap_drewN, hblH.out] at hblk4
                        have hc14 : w4.cell? ⟨wr.heap.size, 1, none⟩ = some (.int .i64 0) := by simp [World.cell?, hblk4]
                        have hc34 : w4.cell? ⟨wr.heap.size, 3, none⟩ = some (.string t) := by simp [World.cell?, hblk4]
                        have hc04 : w4.cell? ⟨wr.heap.size, 0, none⟩ = some (.int .i64 3) := by simp [World.cell?, hblk4]
                        clear hblk4
                        go_wp2_with (go_at_call 17; refine (len_v _ hlv _ hP4.out).mono ?_; rintro e w' ⟨rfl, rfl⟩)
                        go_roundw
                        case rel => exact ⟨k + 1, by omega, by omega, by go_num, ⟨_, hP4.out, hq1.out.trans hn2.out, by rw [hq2.out]; exact hr', by rw [hq3.out]; exact ht'⟩, hbel.trans (hF4.below (by simp; have := hF.size; omega) hPw hBw)⟩
                        case measure => simp [intOf]; omega
                    · have hv2 : 0 < v := by omega
                      clear hv1
                      by_cases hL0 : s'.data.length = 0
                      · by_cases ht1 : 0 < s'.t
                        · as_aux_lemma =>
                            have hz : Hid (s'.readErr v = 11 ∧ (0 : Int) = if (11 : Int) = 0 then min (v.toNat : Int) s'.data.length else 0) := ⟨by simp [St.readErr, hv0, hv2, hL0, ht1], rfl⟩
                            go_wp2_with fail
                            refine (read_v v _ _ hz _ hD2.out hv.2).mono ?_
                            rintro e w4 ⟨R, s4, rfl, hR, hP4', q1, q2, q3, q4, hF4⟩
                            have hP4 := Lib.hid hP4'
                            have hq1 := Lib.hid q1
                            have hq2 := Lib.hid q2
                            have hq3 := Lib.hid q3
                            have hlv : Hid ((s4.data.length : Int) = 0) := by
                              show _ = _
                              omega
                            clear hP4' q1 q2 q3 q4
                            have hblk4 := hF4.block wr.heap.size (by simp; omega) (by omega) (by omega)
                            rw [World.heap_drewN, hblH.out] at hblk4
                            have hc14 : w4.cell? ⟨wr.heap.size, 1, none⟩ = some (.int .i64 v) := by simp [World.cell?, hblk4]
                            have hc34 : w4.cell? ⟨wr.heap.size, 3, none⟩ = some (.string t) := by simp [World.cell?, hblk4]
                            have hc04 : w4.cell? ⟨wr.heap.size, 0, none⟩ = some (.int .i64 3) := by simp [World.cell?, hblk4]
                            clear hblk4
                            go_wp2_with (go_at_call 17; refine (len_v _ hlv _ hP4.out).mono ?_; rintro e w' ⟨rfl, rfl⟩)
                            go_roundw
                            case rel => exact ⟨k + 1, by omega, by omega, by go_num, ⟨_, hP4.out, hq1.out.trans hn2.out, by rw [hq2.out]; exact hr', by rw [hq3.out]; exact ht'⟩, hbel.trans (hF4.below (by simp; have := hF.size; omega) hPw hBw)⟩
                            case measure => simp [intOf]; omega
                        · as_aux_lemma =>
                            have ht2 : decide ((0 : Int) < s'.t) = false := by simp; omega
                            have hz : Hid (s'.readErr v = 0 ∧ (0 : Int) = if (0 : Int) = 0 then min (v.toNat : Int) s'.data.length else 0) := ⟨by simp [St.readErr, hv0, ht1], by rw [if_pos rfl, hL0]; omega⟩
                            go_wp2_with fail
                            refine (read_v v _ _ hz _ hD2.out hv.2).mono ?_
                            rintro e w4 ⟨R, s4, rfl, hR, hP4', q1, q2, q3, q4, hF4⟩
                            have hP4 := Lib.hid hP4'
                            have hq1 := Lib.hid q1
                            have hq2 := Lib.hid q2
                            have hq3 := Lib.hid q3
                            have hlv : Hid ((s4.data.length : Int) = 0) := by
                              show _ = _
                              omega
                            clear hP4' q1 q2 q3 q4
                            have hblk4 := hF4.block wr.heap.size (by simp; omega) (by omega) (by omega)
                            rw [World.heap_drewN, hblH.out] at hblk4
                            have hc14 : w4.cell? ⟨wr.heap.size, 1, none⟩ = some (.int .i64 v) := by simp [World.cell?, hblk4]
                            have hc34 : w4.cell? ⟨wr.heap.size, 3, none⟩ = some (.string t) := by simp [World.cell?, hblk4]
                            have hc04 : w4.cell? ⟨wr.heap.size, 0, none⟩ = some (.int .i64 3) := by simp [World.cell?, hblk4]
                            clear hblk4
                            go_wp2_with (go_at_call 17; refine (len_v _ hlv _ hP4.out).mono ?_; rintro e w' ⟨rfl, rfl⟩)
                            go_roundw
                            case rel => exact ⟨k + 1, by omega, by omega, by go_num, ⟨_, hP4.out, hq1.out.trans hn2.out, by rw [hq2.out]; exact hr', by rw [hq3.out]; exact ht'⟩, hbel.trans (hF4.below (by simp; have := hF.size; omega) hPw hBw)⟩
                            case measure => simp [intOf]; omega
                      · have hx2 : ((s'.data.length : Int) == 0) = false := beq_eq_false_iff_ne.2 (by omega)
                        by_cases hcmp : (s'.data.length : Int) < v
                        · as_aux_lemma =>
                            have hz0 : s'.readErr v = 0 ∧ (s'.data.length : Int) = min (v.toNat : Int) s'.data.length := ⟨by unfold St.readErr; rw [if_neg hv0, if_neg (fun g => hL0 g.2.1)], by omega⟩
                            clear hL0
                            have hz : Hid (s'.readErr v = 0 ∧ (s'.data.length : Int) = if (0 : Int) = 0 then min (v.toNat : Int) s'.data.length else 0) := ⟨hz0.1, by rw [if_pos rfl]; exact hz0.2⟩
                            clear hz0
                            go_wp2_with fail
                            refine (read_v v _ _ hz _ hD2.out hv.2).mono ?_
                            rintro e w4 ⟨R, s4, rfl, hR, hP4', q1, q2, q3, q4, hF4⟩
                            have hP4 := Lib.hid hP4'
                            have hq1 := Lib.hid q1
                            have hq2 := Lib.hid q2
                            have hq3 := Lib.hid q3
                            have hlv : Hid ((s4.data.length : Int) = 0) := by
                              show _ = _
                              omega
                            clear hP4' q1 q2 q3 q4
                            have hblk4 := hF4.block wr.heap.size (by simp; omega) (by omega) (by omega)
                            rw [World.heap_drewN, hblH.out] at hblk4
                            have hc14 : w4.cell? ⟨wr.heap.size, 1, none⟩ = some (.int .i64 v) := by simp [World.cell?, hblk4]
                            have hc34 : w4.cell? ⟨wr.heap.size, 3, none⟩ = some (.string t) := by simp [World.cell?, hblk4]
                            have hc04 : w4.cell? ⟨wr.heap.size, 0, none⟩ = some (.int .i64 3) := by simp [World.cell?, hblk4]
                            clear hblk4
                            go_wp2_with (go_at_call 17; refine (len_v _ hlv _ hP4.out).mono ?_; rintro e w' ⟨rfl, rfl⟩)
                            go_roundw
                            case rel => exact ⟨k + 1, by omega, by omega, by go_num, ⟨_, hP4.out, hq1.out.trans hn2.out, by rw [hq2.out]; exact hr', by rw [hq3.out]; exact ht'⟩, hbel.trans (hF4.below (by simp; have := hF.size; omega) hPw hBw)⟩
                            case measure => simp [intOf]; omega
                        · as_aux_lemma =>
                            have hz0 : s'.readErr v = 0 ∧ v = min (v.toNat : Int) s'.data.length := ⟨by unfold St.readErr; rw [if_neg hv0, if_neg (fun g => hL0 g.2.1)], by omega⟩
                            clear hL0
                            have hz : Hid (s'.readErr v = 0 ∧ v = if (0 : Int) = 0 then min (v.toNat : Int) s'.data.length else 0) := ⟨hz0.1, by rw [if_pos rfl]; exact hz0.2⟩
                            clear hz0
                            go_wp2_with fail
                            refine (read_v v _ _ hz _ hD2.out hv.2).mono ?_
                            rintro e w4 ⟨R, s4, rfl, hR, hP4', q1, q2, q3, q4, hF4⟩
                            have hP4 := Lib.hid hP4'
                            have hq1 := Lib.hid q1
                            have hq2 := Lib.hid q2
                            have hq3 := Lib.hid q3
                            have hlv : Hid ((s4.data.length : Int) = ((s'.data.length : Int) - v)) := by
                              show _ = _
                              omega
                            clear hP4' q1 q2 q3 q4
                            have hblk4 := hF4.block wr.heap.size (by simp; omega) (by omega) (by omega)
                            rw [World.heap_drewN, hblH.out] at hblk4
                            have hc14 : w4.cell? ⟨wr.heap.size, 1, none⟩ = some (.int .i64 v) := by simp [World.cell?, hblk4]
                            have hc34 : w4.cell? ⟨wr.heap.size, 3, none⟩ = some (.string t) := by simp [World.cell?, hblk4]
                            have hc04 : w4.cell? ⟨wr.heap.size, 0, none⟩ = some (.int .i64 3) := by simp [World.cell?, hblk4]
                            clear hblk4
                            go_wp2_with (go_at_call 17; refine (len_v _ hlv _ hP4.out).mono ?_; rintro e w' ⟨rfl, rfl⟩)
                            go_roundw
                            case rel => exact ⟨k + 1, by omega, by omega, by go_num, ⟨_, hP4.out, hq1.out.trans hn2.out, by rw [hq2.out]; exact hr', by rw [hq3.out]; exact ht'⟩, hbel.trans (hF4.below (by simp; have := hF.size; omega) hPw hBw)⟩
                            case measure => simp [intOf]; omega
                · as_aux_lemma =>
                    have c2' : (c == 2) = false := by simpa using c2
                    have c3' : (c == 3) = false := by simpa using c3
                    go_wp2
                    go_roundw
                    case rel => exact ⟨k + 1, by omega, by omega, by go_num, ⟨s', hD.out m, hn2.out, hr', ht'⟩, hbel⟩
                    case measure => simp [intOf]; omega
      · as_aux_lemma =>
          go_wp2
          go_ret
          exact ⟨rfl, hF⟩
end Go.Proofs.Ytifoanmoadogoaa
