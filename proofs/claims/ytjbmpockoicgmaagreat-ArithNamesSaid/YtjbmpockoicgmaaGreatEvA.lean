/- Eval. Condition: the text is short, the variables lie as stated. -/
import Derived.Test.YtjbmpockoicgmaaGreatArZ
import Derived.Test.YtjbmpockoicgmaaGreatFoY
namespace Go.Proofs.YtjbmpockoicgmaaGreat
open Go.RowKit Go.Shelf Go.PlainAid
set_option linter.unusedVariables false
set_option linter.unusedSimpArgs false
attribute [local go_sem] Oper.semAt_some

/-- What a text is worth, and what it assigns. -/
def wrkM (s : ByteArray) (L : List Vr) : I64 × Int × Nm := workM NM (toksM s) ⟨L, fun _ => none, []⟩
def evalM (s : ByteArray) (L : List Vr) : Int × List (ByteArray × I64) × Int :=
  if chkM s ≠ 0 then (0, [], chkM s) else if (wrkM s L).2.1 ≠ 0 then (0, [], (wrkM s L).2.1) else ((wrkM s L).1.1, (wrkM s L).2.2.sets, 0)
theorem eval_bad {s : ByteArray} {L : List Vr} (h : chkM s ≠ 0) : evalM s L = (0, [], chkM s) := by unfold evalM; rw [if_pos h]
theorem eval_err {s : ByteArray} {L : List Vr} (h : chkM s = 0) (k : (wrkM s L).2.1 ≠ 0) : evalM s L = (0, [], (wrkM s L).2.1) := by unfold evalM; rw [if_neg (fun e => e h), if_pos k]
theorem eval_ok {s : ByteArray} {L : List Vr} (h : chkM s = 0) (k : (wrkM s L).2.1 = 0) : evalM s L = ((wrkM s L).1.1, (wrkM s L).2.2.sets, 0) := by unfold evalM; rw [if_neg (fun e => e h), if_neg (fun e => e k)]
theorem neq_t {x : Int} (h : x ≠ 0) : (x != 0) = true := bne_iff_ne.2 h
theorem neq_f {x : Int} (h : x = 0) : (x != 0) = false := by rw [h]; rfl
set_option maxRecDepth 100000 in
set_option maxHeartbeats 4000000 in
theorem eval_in (n : Nat) (hn : 5 ≤ n) (w : World) (s : ByteArray) (hs : s.size ≤ 100000) (va : Option Addr) (vc : Nat) (L : List Vr) (hL : L.length ≤ vc) (hV : VAt (fun _ => False) w va L) :
    CallsIn Fence.wide n Tryz.prog 8 #[.string s, .slice va L.length vc] w fun e w' => ∃ sv, e = .returned (.tuple #[.int .i64 (evalM s L).1, sv, .int .i64 (evalM s L).2.2]) ∧ w'.ownsRow 0 37 2 sv (evalM s L).2.1.length (flat scs (evalM s L).2.1) ∧ Below w.heap.size w w' := by
  have h1 : 1 ≤ n := by omega
  have hck := Lib.hid (check_in (n - 1) (by omega) w s hs)
  obtain ⟨c, hc⟩ : ∃ c, chkM s = c := ⟨_, rfl⟩
  rw [hc] at hck
  have hnn := Lib.hid (fun (W : World) (hb : Below w.heap.size w W) => newNumbers_any W va vc L hL (hV.keep hb.size (fun g h _ => hb.block g h) (fun g h => h.elim)))
  have hwk := Lib.hid (fun (np : Nat) (S0 : Nat → Prop) (W : World) (hm : NAt S0 np W ⟨L, fun _ => none, []⟩) (hlt : ∀ g, S0 g → g < W.heap.size) => I.work_in (n - 1) (by omega) np S0 W ⟨L, fun _ => none, []⟩ s hs hm hlt rfl)
  have hwd := Lib.hid (show workM NM (toksM s) ⟨L, fun _ => none, []⟩ = wrkM s L from rfl)
  rw [hwd.out] at hwk
  have hcH := Lib.hid hc
  have hbad := Lib.hid (eval_bad (s := s) (L := L))
  have herr := Lib.hid (eval_err (s := s) (L := L))
  have hok := Lib.hid (eval_ok (s := s) (L := L))
  obtain ⟨R, hR⟩ : ∃ R, wrkM s L = R := ⟨_, rfl⟩
  rw [hR] at hwk herr hok
  clear hc hV hL hs hR hwd
  refine callsIn_of_wp Tryz.func8 rfl trivial ?_ rfl
  simp only [Tryz.ntmps8, List.size_toArray, List.length_cons, List.length_nil, Nat.reduceAdd, Nat.reduceSub, Array.replicate_succ, Array.replicate_zero, List.push_toArray, List.append_toArray, List.nil_append, List.cons_append]
  by_cases h0 : c ≠ 0
  · have q1 := neq_t h0
    have hr := Lib.hid (hbad.out (by rw [hcH.out]; exact h0))
    clear h0
    gi_wp2_with (refine ⟨trivial, ?_⟩; gi_at_call 12; refine hck.out.mono ?_; rintro e w2 ⟨rfl, hb2⟩; have hb2H := Lib.hid hb2; clear hb2)
    refine bodyPost_ret (results_tmp3 rfl _ _ _) rfl ?_
    rw [hr.out]
    exact ⟨.slice none 0 0, by rw [hcH.out]; rfl, ⟨rfl, .inl ⟨rfl, rfl⟩⟩, hb2H.out⟩
  have h0 : c = 0 := Decidable.byContradiction h0
  have q1 := neq_f h0
  have hc0 := Lib.hid (hcH.out.trans h0)
  clear h0
  by_cases h2 : R.2.1 ≠ 0
  · have q2 := neq_t h2
    have hr := Lib.hid (herr.out hc0.out h2)
    clear h2
    gi_wp2_with (refine ⟨trivial, ?_⟩; first | (gi_at_call 12; refine hck.out.mono ?_; rintro e w2 ⟨rfl, hb2⟩; have hb2H := Lib.hid hb2; clear hb2) | (gi_at_call 13; refine (callsIn_wide.2 (hnn.out _ hb2H.out)).mono ?_; rintro e w3 ⟨np, S3, rfl, hm3, hS3, hb3⟩; have hm3H := Lib.hid hm3; have hS3H := Lib.hid hS3; have hb3H := Lib.hid hb3; clear hm3 hS3 hb3) | (gi_at_call 14; refine (hwk.out np S3 w3 hm3H.out (fun g hg => (hS3H.out g hg).2)).mono ?_; rintro e w4 ⟨rfl, S4, hm4, hF4⟩; have hm4H := Lib.hid hm4; have hF4H := Lib.hid hF4; clear hm4 hF4))
    refine bodyPost_ret (results_tmp3 rfl _ _ _) rfl ?_
    rw [hr.out]
    have hb4 : Below w.heap.size w3 w4 := hF4H.out.below (fun g hg => Nat.le_trans hb2H.out.size (hS3H.out g hg).1) (Nat.le_trans hb2H.out.size hb3H.out.size)
    exact ⟨.slice none 0 0, rfl, ⟨rfl, .inl ⟨rfl, rfl⟩⟩, (hb2H.out.trans (hb3H.out.mono hb2H.out.size)).trans hb4⟩
  have h2 : R.2.1 = 0 := Decidable.byContradiction h2
  have q2 := neq_f h2
  have hr := Lib.hid (hok.out hc0.out h2)
  clear h2
  gi_upto_region 8 with (refine ⟨trivial, ?_⟩; first | (gi_at_call 12; refine hck.out.mono ?_; rintro e w2 ⟨rfl, hb2⟩; have hb2H := Lib.hid hb2; clear hb2) | (gi_at_call 13; refine (callsIn_wide.2 (hnn.out _ hb2H.out)).mono ?_; rintro e w3 ⟨np, S3, rfl, hm3, hS3, hb3⟩; have hm3H := Lib.hid hm3; have hS3H := Lib.hid hS3; have hb3H := Lib.hid hb3; clear hm3 hS3 hb3) | (gi_at_call 14; refine (hwk.out np S3 w3 hm3H.out (fun g hg => (hS3H.out g hg).2)).mono ?_; rintro e w4 ⟨rfl, S4, hm4, hF4⟩; have hm4H := Lib.hid hm4; have hF4H := Lib.hid hF4; clear hm4 hF4))
  have hb4 := Lib.hid (show Below w.heap.size w3 w4 from hF4H.out.below (fun g hg => Nat.le_trans hb2H.out.size (hS3H.out g hg).1) (Nat.le_trans hb2H.out.size hb3H.out.size))
  obtain ⟨mt, nt, mn, va4, vc4, sv, hB⟩ := hm4H.out
  have c3 : w4.cell? ⟨np, 3, none⟩ = some sv := hB.blk.cell 3
  have hrow := Lib.hid hB.sets
  clear hB
  obtain ⟨av, cv, rfl⟩ := row_ge0 hrow.out
  refine wpIn_wide.2 ?_
  go_quiet (fail)
  gi_wp2
  refine bodyPost_ret (results_tmp3 rfl _ _ _) rfl ?_
  rw [hr.out]
  exact ⟨_, rfl, hrow.out, ((hb2H.out.trans (hb3H.out.mono hb2H.out.size)).trans hb4.out).trans ((I.belDN _ _).mono (by have := hb2H.out.size; have := hb3H.out.size; have := hb4.out.size; omega))⟩
end Go.Proofs.YtjbmpockoicgmaaGreat
