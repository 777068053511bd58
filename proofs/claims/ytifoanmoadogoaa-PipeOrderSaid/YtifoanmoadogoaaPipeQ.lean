/- The walk of the law PipeOrder: true at every input. No condition. -/
import Derived.Test.YtifoanmoadogoaaPipeO
namespace Go.Proofs.Ytifoanmoadogoaa
open Go.RowKit

/-- What a Write to a pipe with readers does. -/
def Wrote (P B : Nat) (s : St) (x : ByteArray) (w : World) (e : Ending) (w' : World) : Prop :=
  ∃ (m : Nat) (ev : Int) (s' : St), e = .returned (.tuple #[.int .i64 m, .int .i64 ev]) ∧ m ≤ x.size ∧ PipeAt w' P B s' ∧ s'.size = s.size ∧ s'.r = s.r ∧ s'.t = s.t ∧ s'.data = s.data ++ x.data.toList.take m ∧ Frame P B w w' ∧
    (ev = 0 ∨ ev = 11 ∧ s'.data.length = s'.size)

theorem write_o {P B : Nat} {s : St} (x : ByteArray) (w : World) (h : PipeAt w P B s) (hr : 0 < s.r) (hs : x.size ≤ maxLen) :
    Calls Try.prog 12 #[.pointer (some ⟨P, 0, none⟩), .string x] w (Wrote P B s x w) := by
  refine (write_any x w h hs).mono ?_
  rintro e w' ⟨he, hP, hF⟩
  have hlen : x.data.toList.length = x.size := by simp
  have hle : s.wrote x.data.toList ≤ x.data.toList.length := by unfold St.wrote; split <;> omega
  refine ⟨_, _, _, he, by omega, hP, rfl, rfl, rfl, rfl, hF, ?_⟩
  unfold St.writeErr
  rw [if_neg (by omega)]
  by_cases hx : x.data.toList = []
  · rw [if_pos hx]; exact .inl rfl
  · rw [if_neg hx]
    by_cases hf : s.size = s.data.length
    · rw [if_pos hf]
      refine .inr ⟨rfl, ?_⟩
      have : s.wrote x.data.toList = 0 := by unfold St.wrote; rw [if_neg (by omega)]; omega
      simp [St.written, this, hf]
    · rw [if_neg hf]; exact .inl rfl

/-- What a Read of at most N bytes gives. -/
def Got (P B : Nat) (s : St) (N : Int) (w : World) (e : Ending) (w' : World) : Prop :=
  ∃ (R : ByteArray) (ev : Int) (s' : St), e = .returned (.tuple #[.string R, .int .i64 ev]) ∧ (R.size : Int) ≤ N ∧ R.size ≤ s.data.length ∧ PipeAt w' P B s' ∧ s'.size = s.size ∧ s'.r = s.r ∧ s'.t = s.t ∧ R.data.toList ++ s'.data = s.data ∧ Frame P B w w' ∧
    ((s.data.length : Int) ≤ N → s'.data = []) ∧ (ev = 0 ∨ ev = 11 ∧ s'.data.length = 0 ∧ R = ⟨#[]⟩)

theorem read_o {P B : Nat} {s : St} (N : Int) (w : World) (h : PipeAt w P B s) (h0 : 0 ≤ N) (hb : N ≤ 9223372036854775807) :
    Calls Try.prog 13 #[.pointer (some ⟨P, 0, none⟩), .int .i64 N] w (Got P B s N w) := by
  refine (read_any N w h hb).mono ?_
  rintro e w' ⟨he, hP, hF⟩
  by_cases he0 : s.readErr N = 0
  · rw [if_pos he0] at he hP
    refine ⟨_, _, _, he, ?_, ?_, hP, rfl, rfl, rfl, ?_, hF, ?_, .inl he0⟩
    · simp [ByteArray.size, St.got]; omega
    · simp [ByteArray.size, St.got]; omega
    · simp [St.got, St.read]
    · intro hN; simp [St.read]; omega
  · rw [if_neg he0] at he hP
    have h1 : s.readErr N = 11 ∧ s.data.length = 0 := by
      unfold St.readErr at he0 ⊢
      rw [if_neg (by omega)] at he0 ⊢
      by_cases g : 0 < N ∧ s.data.length = 0 ∧ 0 < s.t
      · rw [if_pos g]; exact ⟨rfl, g.2.1⟩
      · rw [if_neg g] at he0; exact absurd rfl he0
    refine ⟨_, _, _, he, by simp [ByteArray.size]; omega, by simp [ByteArray.size], hP, rfl, rfl, rfl, by simp, hF, fun _ => List.eq_nil_of_length_eq_zero h1.2, .inr ⟨h1.1, h1.2, rfl⟩⟩

theorem len_w {P B : Nat} {s : St} (v : Int) (hv : Hid ((s.data.length : Int) = v)) (w : World) (h : PipeAt w P B s) :
    Calls Try.prog 17 #[.pointer (some ⟨P, 0, none⟩)] w fun e w' => e = .returned (.int .i64 v) ∧ w' = w :=
  (len_any w h).mono fun e w' ⟨he, hw⟩ => ⟨by rw [he, hv.out], hw⟩

theorem cat_step (G s L : List UInt8) (m kk : Nat) (h : m ≤ kk) : G ++ (s ++ (L.take kk).take m) ++ L.drop m = G ++ s ++ L := by
  rw [List.take_take, Nat.min_eq_left h, List.append_assoc, List.append_assoc, List.take_append_drop, ← List.append_assoc]

theorem ext_to (L : ByteArray) (k : Nat) : (L.extract 0 k).data.toList = L.data.toList.take k := by
  simp [ByteArray.data_extract]
theorem ext_from (L : ByteArray) (k : Nat) : (L.extract k L.size).data.toList = L.data.toList.drop k := by
  rw [ByteArray.data_extract, Array.toList_extract]
  simp [List.extract, List.take_of_length_le]

theorem bytes_eq {a b : ByteArray} (h : a.data.toList = b.data.toList) : a = b := by
  obtain ⟨⟨a⟩⟩ := a
  obtain ⟨⟨b⟩⟩ := b
  simp at h
  rw [h]

theorem empty_of (R : ByteArray) (h : R.size = 0) : R = ByteArray.empty :=
  bytes_eq (List.eq_nil_of_length_eq_zero (by simpa using h))

theorem last_eq (x G R L : ByteArray) (h : G.data.toList ++ R.data.toList ++ L.data.toList = x.data.toList) : G ++ R = x.extract 0 (x.size - L.size) := by
  apply bytes_eq
  rw [ext_to, ← h]
  have hx : x.size = (G.data.toList ++ R.data.toList).length + L.size := by
    have := congrArg List.length h
    simp at this ⊢
    omega
  rw [hx, Nat.add_sub_cancel, List.take_left]
  simp

set_option maxRecDepth 100000 in
set_option maxHeartbeats 8000000 in
theorem pipeOrder_walk (size : Int) (x : ByteArray) (A0 : Option Addr) (l0 c0 : Nat) (A1 : Option Addr) (l1 c1 : Nat) (w : World) (_ : -9223372036854775808 ≤ size ∧ size ≤ 9223372036854775807) (hx : x.size ≤ maxLen)
    (h0 : IntsAt w.heap.size w A0 l0) (h1 : IntsAt w.heap.size w A1 l1) :
    Calls Try.prog 4 #[.int .i64 size, .string x, .agg #[.slice A0 l0 c0, .slice A1 l1 c1]] w fun e w' => e = .returned (.bool true) ∧ Below w.heap.size w w' := by
  have hl0 := h0.1
  have hl1 := h1.1
  unfold maxLen at hl0 hl1 hx
  have H0 := Lib.hid h0
  have H1 := Lib.hid h1
  clear h0 h1
  obtain ⟨n, hn⟩ : ∃ n, size.tmod 300 = n := ⟨_, rfl⟩
  have hn3 : n < 300 := by rw [← hn]; have := Int.tmod_lt_of_pos size (show (0 : Int) < 300 by omega); omega
  have hn4 : -300 < n := by rw [← hn]; have := Int.lt_tmod_of_pos size (show (0 : Int) < 300 by omega); omega
  by_cases hn1 : n < 1
  · as_aux_lemma =>
      go_enter Try.func4, Try.ntmps4
      go_wp2_with fail
      go_quiet (fail)
      go_wp2_with fail
      refine (awake_any _).mono ?_
      rintro e w1 ⟨rfl, hB1⟩
      go_wp2_with fail
      go_ret
      exact ⟨rfl, (below_drewN ((Below.refl _ w).alloc (Nat.le_refl _) _) nq).trans (hB1.mono (by simp))⟩
  · by_cases hx2 : (2000 : Int) < x.size
    · as_aux_lemma =>
        go_enter Try.func4, Try.ntmps4
        go_wp2_with fail
        go_quiet (fail)
        go_wp2_with fail
        refine (awake_any _).mono ?_
        rintro e w1 ⟨rfl, hB1⟩
        go_wp2_with fail
        go_ret
        exact ⟨rfl, (below_drewN ((Below.refl _ w).alloc (Nat.le_refl _) _) nq).trans (hB1.mono (by simp))⟩
    · by_cases hl2 : (100 : Int) < l0
      · as_aux_lemma =>
          go_enter Try.func4, Try.ntmps4
          go_wp2_with fail
          go_quiet (fail)
          go_wp2_with fail
          refine (awake_any _).mono ?_
          rintro e w1 ⟨rfl, hB1⟩
          go_wp2_with fail
          go_ret
          exact ⟨rfl, (below_drewN ((Below.refl _ w).alloc (Nat.le_refl _) _) nq).trans (hB1.mono (by simp))⟩
      · obtain ⟨k, rfl⟩ := Int.eq_ofNat_of_zero_le (show 0 ≤ n by omega)
        go_enter Try.func4, Try.ntmps4
        go_wp2_with fail
        go_quiet (fail)
        go_wp2_with fail
        refine (awake_any _).mono ?_
        rintro e w1 ⟨rfl, hB1⟩
        go_wp2_with fail
        clear hn
        refine (new_yes k (by omega) (by omega) w1).mono ?_
        rintro e w2 ⟨rfl, hP2, hB2⟩
        have hBel1 : Below w.heap.size w w1 := (below_drewN ((Below.refl _ w).alloc (Nat.le_refl _) _) nq).trans (hB1.mono (by simp))
        obtain ⟨P, hP⟩ : ∃ P, P = w1.heap.size + 2 := ⟨_, rfl⟩
        obtain ⟨B, hB⟩ : ∃ B, B = w1.heap.size + 1 := ⟨_, rfl⟩
        rw [← hP, ← hB] at hP2
        rw [← hP]
        have hs1 := hBel1.size
        have hPw : w.heap.size ≤ P := by omega
        have hBw : w.heap.size ≤ B := by omega
        have hBel2 := hBel1.trans (hB2.mono hs1)
        clear hP hB hB1 hB2 hBel1 hs1
        have hPH := Lib.hid hP2
        clear hP2
        go_wp2_with fail
        refine (open_any true w2 hPH.out (by show 0 < _; decide) (by show 0 < _; decide)).mono ?_
        rintro e w3 ⟨rfl, hP3, hF3⟩
        have hPH3 : Hid (PipeAt w3 P B ⟨k, 0, 1, []⟩) := hP3
        clear hP3
        go_wp2_with fail
        refine (open_any false w3 hPH3.out (by show 0 < _; decide) (by show 1 < _; decide)).mono ?_
        rintro e w4 ⟨rfl, hP4, hF4⟩
        have hPH4 : Hid (PipeAt w4 P B ⟨k, 1, 1, []⟩) := hP4
        clear hP4
        have hs2 := hBel2.size
        have hs3 := hF3.size
        have hBel4 : Below w.heap.size w w4 := (hBel2.trans (hF3.below hs2 hPw hBw)).trans (hF4.below (by omega) hPw hBw)
        clear hPH hPH3 hF3 hF4 hBel2 hs2 hs3
        go_wp2_with fail
        go_loopw [11, 12, 55] (fun s11 s12 i wr => ∃ j : Nat, j ≤ l0 ∧ i = .int .i64 j ∧ ∃ (L G : ByteArray) (s : St), s11 = .string L ∧ s12 = .string G ∧ PipeAt wr P B s ∧ s.size = k ∧ s.r = 1 ∧ s.t = 1 ∧
            G.data.toList ++ s.data ++ L.data.toList = x.data.toList ∧ Below w.heap.size w wr) (fun _ _ i _ => l0 - (intOf i).toNat)
        case atStart => exact ⟨0, Nat.zero_le _, rfl, x, ⟨#[]⟩, _, rfl, rfl, hPH4.out, rfl, rfl, rfl, by simp, hBel4⟩
        case round =>
          obtain ⟨j, hj, rfl, L, G, s, rfl, rfl, hP, q1, q2, q3, hcat, hBel⟩ := hrel
          have hPs := Lib.hid hP
          have hq := Lib.hid (And.intro q1 (And.intro q2 q3))
          have hc := Lib.hid hcat
          have hlen : G.size + s.data.length + L.size = x.size := by
            have := congrArg List.length hcat
            simp at this; omega
          have hok := hP.ok.2.2
          rw [q1] at hok
          clear hP q1 q2 q3 hcat hPH4 hBel4
          by_cases hjl : j < l0
          · obtain ⟨b, off, v, rfl, hb, hcell, hv⟩ := (H0.out.below hBel).2 j hjl
            go_upto_region 17 with fail
            go_cut [68] (fun s68 wx => s68 = .bool (decide (0 ≤ v ∧ v < L.size)) ∧ wr = wx)
            case first =>
              by_cases g1 : 0 ≤ v
              · by_cases g2 : v < L.size
                · as_aux_lemma =>
                    go_wp2
                    go_meet
                    exact ⟨by rw [decide_eq_true (And.intro g1 g2)], rfl⟩
                · as_aux_lemma =>
                    go_wp2
                    go_meet
                    exact ⟨by rw [decide_eq_false (fun g => by omega)], rfl⟩
              · as_aux_lemma =>
                  go_wp2
                  go_meet
                  exact ⟨by rw [decide_eq_false (fun g => by omega)], rfl⟩
            case rest =>
              obtain ⟨rfl, rfl⟩ := hcut
              go_upto_if 68 with fail
              go_cut [15] (fun s15 wx => (∃ kk : Nat, kk ≤ L.size ∧ s15 = .int .i64 kk) ∧ wr = wx)
              case first =>
                by_cases g : 0 ≤ v ∧ v < L.size
                · as_aux_lemma =>
                    obtain ⟨kk, rfl⟩ := Int.eq_ofNat_of_zero_le g.1
                    go_wp2
                    go_meet
                    exact ⟨⟨kk, by omega, rfl⟩, rfl⟩
                · as_aux_lemma =>
                    go_wp2
                    go_meet
                    exact ⟨⟨L.size, Nat.le_refl _, rfl⟩, rfl⟩
              case rest =>
                obtain ⟨⟨kk, hkk, rfl⟩, rfl⟩ := hcut
                have hkk' : (kk : Int) ≤ L.size := by omega
                have hts : (L.extract 0 kk).size ≤ maxLen := by unfold maxLen; rw [ByteArray.size_extract]; omega
                go_wp2_with fail
                refine (write_o (L.extract 0 kk) _ hPs.out (by rw [hq.out.2.1]; decide) hts).mono ?_
                clear hts
                rintro e w5 ⟨m, ev, s5, rfl, hm, hP5, q1, q2, q3, q4, hF5, hev⟩
                have hmk : m ≤ kk := by rw [ByteArray.size_extract] at hm; omega
                have hmL : (m : Int) ≤ L.size := by omega
                have hPs5 := Lib.hid hP5
                have hq5 : Hid (s5.size = k ∧ s5.r = 1 ∧ s5.t = 1) := ⟨q1.trans hq.out.1, q2.trans hq.out.2.1, q3.trans hq.out.2.2⟩
                have hc5 : Hid (G.data.toList ++ s5.data ++ (L.extract m L.size).data.toList = x.data.toList) := by
                  show _ = _
                  rw [q4, ← hc.out, ext_to, ext_from]
                  exact cat_step _ _ _ _ _ hmk
                have hs5 := hF5.size
                have hbel5 : Below w.heap.size w w5 := hBel.trans (hF5.below hBel.size hPw hBw)
                have hle5 : s5.data.length ≤ k := by have := hP5.ok.2.2; have := hq5.out.1; omega
                have hev5 := Lib.hid hev
                have hD5 := Lib.hid (fun m => hP5.keep (w' := w5.drewN m) ⟨rfl, rfl⟩)
                clear hm hP5 q1 q2 q3 q4 hF5 hev hq hPs hc hlen hok hBel hs5
                go_upto_region 20 with fail
                go_cut [104] (fun s104 wx => s104 = .bool false ∧ w5 = wx)
                case first =>
                  rcases hev5.out with rfl | ⟨rfl, hfull⟩
                  · as_aux_lemma =>
                      have hkm : ¬ ((kk : Int) < m) := by omega
                      have hk5 : ¬ ((k : Int) < s5.data.length) := by omega
                      go_wp2_with (go_at_call 17; refine (len_any _ hPs5.out).mono ?_; rintro e w' ⟨rfl, rfl⟩)
                      go_meet
                      exact ⟨by rw [decide_eq_false (by omega)], rfl⟩
                  · as_aux_lemma =>
                      have hlv : Hid ((s5.data.length : Int) = k) := by show _ = _; have := hq5.out.1; omega
                      have hkm : ¬ ((kk : Int) < m) := by omega
                      clear hfull
                      go_wp2_with (go_at_call 17; refine (len_w _ hlv _ hPs5.out).mono ?_; rintro e w' ⟨rfl, rfl⟩)
                      go_meet
                      exact ⟨rfl, rfl⟩
                case rest =>
                  obtain ⟨rfl, rfl⟩ := hcut
                  clear hev5
                  go_upto_if 111 with fail
                  go_cut [18] (fun s18 wx => (∃ r : Int, s18 = .int .i64 r ∧ -9223372036854775808 ≤ r ∧ r ≤ 9223372036854775807) ∧ w5 = wx)
                  case first =>
                    by_cases g : j < l1
                    · as_aux_lemma =>
                        obtain ⟨b1, off1, v1, rfl, hb1, hcell1, hv1⟩ := (H1.out.below hbel5).2 j g
                        go_wp2
                        go_meet
                        exact ⟨⟨v1, rfl, hv1⟩, rfl⟩
                    · as_aux_lemma =>
                        go_wp2
                        go_meet
                        exact ⟨⟨0, rfl, by omega, by omega⟩, rfl⟩
                  case rest =>
                    obtain ⟨⟨r, rfl, hr1, hr2⟩, rfl⟩ := hcut
                    go_upto_region 26 with fail
                    go_cut [17, 19] (fun s17 s19 wx => ∃ (R : ByteArray) (ev : Int) (s6 : St), s19 = .string R ∧ s17 = .int .i64 ev ∧ ((R.size : Int) ≤ r ∨ R.size = 0) ∧ PipeAt wx P B s6 ∧ (s6.size = k ∧ s6.r = 1 ∧ s6.t = 1) ∧ R.data.toList ++ s6.data = s5.data ∧ Frame P B w5 wx ∧ (ev = 0 ∨ ev = 11 ∧ s6.data.length = 0))
                    case first =>
                      by_cases g : r < 0
                      · as_aux_lemma =>
                          go_wp2_with fail
                          refine (read_o 0 _ hPs5.out (by decide) (by decide)).mono ?_
                          rintro e w6 ⟨R, ev', s6, rfl, z1, z2, z3, z4, z5, z6, z7, z8, z9, z10⟩
                          have z3' := Lib.hid z3
                          have z4' := Lib.hid (And.intro z1 (And.intro z4 (And.intro z5 (And.intro z6 (And.intro z7 (And.intro z8 z10))))))
                          clear z1 z2 z3 z4 z5 z6 z7 z8 z9 z10
                          go_wp2_with fail
                          go_meet
                          obtain ⟨z1, z4, z5, z6, z7, z8, z10⟩ := z4'.out
                          exact ⟨R, _, s6, rfl, rfl, .inr (by omega), z3'.out, ⟨z4.trans hq5.out.1, z5.trans hq5.out.2.1, z6.trans hq5.out.2.2⟩, z7, z8, z10.imp id (fun q => ⟨q.1, q.2.1⟩)⟩
                      · as_aux_lemma =>
                          go_wp2_with fail
                          refine (read_o r _ hPs5.out (by omega) (by omega)).mono ?_
                          rintro e w6 ⟨R, ev', s6, rfl, z1, z2, z3, z4, z5, z6, z7, z8, z9, z10⟩
                          have z3' := Lib.hid z3
                          have z4' := Lib.hid (And.intro z1 (And.intro z4 (And.intro z5 (And.intro z6 (And.intro z7 (And.intro z8 z10))))))
                          clear z1 z2 z3 z4 z5 z6 z7 z8 z9 z10
                          go_wp2_with fail
                          go_meet
                          obtain ⟨z1, z4, z5, z6, z7, z8, z10⟩ := z4'.out
                          exact ⟨R, _, s6, rfl, rfl, .inl z1, z3'.out, ⟨z4.trans hq5.out.1, z5.trans hq5.out.2.1, z6.trans hq5.out.2.2⟩, z7, z8, z10.imp id (fun q => ⟨q.1, q.2.1⟩)⟩
                    case rest =>
                      obtain ⟨R, ev6, s6, rfl, rfl, hR, hP6, hq6, hc6, hF6, hev6⟩ := hcut
                      have hPs6 := Lib.hid hP6
                      have hq6' := Lib.hid hq6
                      have hc6' : Hid ((G ++ R).data.toList ++ s6.data ++ (L.extract m L.size).data.toList = x.data.toList) := by
                        show _ = _
                        rw [← hc5.out, ← hc6]
                        simp [List.append_assoc]
                      have hsum : G.size + R.size ≤ x.size := by
                        have := congrArg List.length hc6'.out
                        simp at this
                        omega
                      have hbel6 : Below w.heap.size w wc := hbel5.trans (hF6.below hbel5.size hPw hBw)
                      have hev6' := Lib.hid hev6
                      have hR' := Lib.hid hR
                      clear hP6 hq6 hc6 hF6 hev6 hR hPs5 hD5 hq5 hc5 hbel5 hle5
                      go_upto_region 27 with fail
                      go_cut [19, 140] (fun s19 s140 wx => s19 = .string R ∧ s140 = .bool false ∧ wc = wx)
                      case first =>
                        by_cases g : r < 0
                        · have hRz : ¬ ((0 : Int) < R.size) := by have := hR'.out; omega
                          have hRe : Hid (R = ByteArray.empty) := empty_of R (by have := hR'.out; omega)
                          rcases hev6'.out with rfl | ⟨rfl, h0⟩
                          · as_aux_lemma =>
                              go_wp2
                              go_meet
                              exact ⟨by rw [hRe.out], rfl, rfl⟩
                          · as_aux_lemma =>
                              have hlv : Hid ((s6.data.length : Int) = 0) := by show _ = _; omega
                              clear h0
                              go_wp2_with (go_at_call 17; refine (len_w _ hlv _ hPs6.out).mono ?_; rintro e w' ⟨rfl, rfl⟩)
                              go_meet
                              exact ⟨by rw [hRe.out], rfl, rfl⟩
                        · have hRz : ¬ (r < R.size) := by have := hR'.out; omega
                          rcases hev6'.out with rfl | ⟨rfl, h0⟩
                          · as_aux_lemma =>
                              go_wp2
                              go_meet
                              exact ⟨rfl, rfl, rfl⟩
                          · as_aux_lemma =>
                              have hlv : Hid ((s6.data.length : Int) = 0) := by show _ = _; omega
                              clear h0
                              go_wp2_with (go_at_call 17; refine (len_w _ hlv _ hPs6.out).mono ?_; rintro e w' ⟨rfl, rfl⟩)
                              go_meet
                              exact ⟨rfl, rfl, rfl⟩
                      case rest =>
                        obtain ⟨rfl, rfl, rfl⟩ := hcut
                        go_wp2
                        go_roundw
                        case rel => exact ⟨j + 1, by omega, by go_num, _, _, s6, rfl, rfl, hPs6.out, hq6'.out.1, hq6'.out.2.1, hq6'.out.2.2, hc6'.out, hbel6⟩
                        case measure => simp [intOf]; omega
          · obtain rfl : j = l0 := by omega
            go_wp2_with fail
            refine (read_o k _ hPs.out (by omega) (by omega)).mono ?_
            rintro e w6 ⟨R, ev, s6, rfl, z1, z2, z3, z4, z5, z6, z7, z8, z9, z10⟩
            have hs6 := z9 (by omega)
            rw [hs6, List.append_nil] at z7
            have hfin : Hid (G ++ R = x.extract 0 (x.size - L.size)) := last_eq x G R L (by rw [z7]; exact hc.out)
            have hPs6 := Lib.hid z3
            have hlv : Hid ((s6.data.length : Int) = 0) := by show _ = _; rw [hs6]; rfl
            have hbel6 : Below w.heap.size w w6 := hBel.trans (z8.below hBel.size hPw hBw)
            have hsum : G.size + R.size ≤ x.size := by omega
            have hLx : L.size ≤ x.size := by omega
            clear z1 z2 z3 z4 z5 z6 z7 z8 z9 hs6 hBel
            rcases z10 with rfl | ⟨rfl, _, rfl⟩
            · as_aux_lemma =>
                have hf := hfin.out
                go_wp2_with (go_at_call 17; refine (len_w _ hlv _ hPs6.out).mono ?_; rintro e w' ⟨rfl, rfl⟩)
                go_ret
                exact ⟨rfl, hbel6⟩
            · as_aux_lemma =>
                have hf : G ++ ⟨#[]⟩ = x.extract 0 (x.size - L.size) := hfin.out
                go_wp2_with (go_at_call 17; refine (len_w _ hlv _ hPs6.out).mono ?_; rintro e w' ⟨rfl, rfl⟩)
                go_ret
                exact ⟨rfl, hbel6⟩
end Go.Proofs.Ytifoanmoadogoaa
