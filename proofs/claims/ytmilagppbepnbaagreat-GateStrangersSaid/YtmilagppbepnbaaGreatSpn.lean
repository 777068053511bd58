/- A list of steps that came in: its elements' fields in memory. No condition. -/
import Derived.Test.YtmilagppbepnbaaGreatSpm
import Derived.ShutString
import Derived.ChangeOld
import Derived.Deep.Slices
import Derived.OpenShut
import Derived.ProofKit
import Derived.Laws.DeepStrings4
import Derived.BigQuiet
namespace Go.Proofs.YtmilagppbepnbaaGreat.Kn
open Go.ChangeShapes Go.WideShapes Go.RowKit Go.Deep Go.PlainAid
set_option linter.unusedVariables false
/-- What is asked by a step, and of whom. -/
structure Stp where
  pid : Int
  no : Int
  a : Int
  b : Int
  s : ByteArray
  t : ByteArray
  pa : Option Addr
  pn : Nat
  pc : Nat
/-- The step at a place of the slice A, below block n0. -/
def StpAt (n0 : Nat) (w : World) (A : Option Addr) (i : Nat) (p : Stp) : Prop :=
  ∃ (g off : Nat), A = some ⟨g, off, none⟩ ∧ g < n0 ∧
    w.cell? ⟨g, off + i * 7, none⟩ = some (.int .i64 p.pid) ∧ w.cell? ⟨g, off + i * 7 + 1, none⟩ = some (.int .i64 p.no) ∧ w.cell? ⟨g, off + i * 7 + 2, none⟩ = some (.int .i64 p.a) ∧ w.cell? ⟨g, off + i * 7 + 3, none⟩ = some (.int .i64 p.b) ∧
    w.cell? ⟨g, off + i * 7 + 4, none⟩ = some (.string p.s) ∧ w.cell? ⟨g, off + i * 7 + 5, none⟩ = some (.string p.t) ∧ w.cell? ⟨g, off + i * 7 + 6, none⟩ = some (.slice p.pa p.pn p.pc) ∧
    (-9223372036854775808 ≤ p.pid ∧ p.pid ≤ 9223372036854775807) ∧ (-9223372036854775808 ≤ p.a ∧ p.a ≤ 9223372036854775807) ∧ (-9223372036854775808 ≤ p.b ∧ p.b ≤ 9223372036854775807) ∧ p.s.size ≤ maxLen ∧ p.t.size ≤ maxLen
theorem StpAt.below {n0 : Nat} {w w' : World} {A : Option Addr} {i : Nat} {p : Stp} (h : StpAt n0 w A i p) (hb : Below n0 w w') : StpAt n0 w' A i p := by
  obtain ⟨g, off, e, hl, h0, h1, h2, h3, h4, h5, h6, h7⟩ := h
  have k : ∀ o v, w.cell? ⟨g, o, none⟩ = some v → w'.cell? ⟨g, o, none⟩ = some v := fun o v hv => (hb.cell (p := ⟨g, o, none⟩) hl).trans hv
  exact ⟨g, off, e, hl, k _ _ h0, k _ _ h1, k _ _ h2, k _ _ h3, k _ _ h4, k _ _ h5, k _ _ h6, h7⟩
/-- The list's steps. -/
def StpsAt (n0 : Nat) (w : World) (A : Option Addr) (len : Nat) : Prop := len ≤ maxLen ∧ ∀ i, i < len → ∃ p, StpAt n0 w A i p
theorem StpsAt.below {n0 len : Nat} {w w' : World} {A : Option Addr} (h : StpsAt n0 w A len) (hb : Below n0 w w') : StpsAt n0 w' A len := ⟨h.1, fun i hi => by obtain ⟨p, hp⟩ := h.2 i hi; exact ⟨p, hp.below hb⟩⟩
theorem seven {α : Type} {l : List α} (h : l.length = 7) : ∃ a b c d e f g, l = [a, b, c, d, e, f, g] := by
  match l, h with
  | [a, b, c, d, e, f, g], _ => exact ⟨a, b, c, d, e, f, g, rfl⟩
theorem six {α : Type} {l : List α} (h : l.length = 6) : ∃ a b c d e f, l = [a, b, c, d, e, f] := by
  match l, h with
  | [a, b, c, d, e, f], _ => exact ⟨a, b, c, d, e, f, rfl⟩
theorem two {α : Type} {l : List α} (h : l.length = 2) : ∃ a b, l = [a, b] := by
  match l, h with
  | [a, b], _ => exact ⟨a, b, rfl⟩
theorem open_chs {H : Type} {enc : TypeId × Value → H} {w : World} {spare : Nat → Bool} {held : Bool} {fuel : Nat} {v : Value} {x : DataW H × List MemPlace} (h : DataW.trod enc Tryz.prog w 0 spare held fuel 32 [v] = some x) :
    ∃ (a : Option Addr) (l c : Nat), v = .slice a l c := by
  rcases open_slice Tryz.underlying32 h with ⟨hcs, _⟩ | ⟨a, l, c, m, n, D, Pl, hcs, _, hl, hm, hmm, _, hi⟩
  · exact ⟨none, 0, 0, by simpa using hcs⟩
  · exact ⟨some a, l, c, by simpa using hcs⟩
/-- A call's fields, as they lie. -/
theorem call_parts {H : Type} {enc : TypeId × Value → H} {w : World} {spare : Nat → Bool} {held : Bool} {fuel : Nat} {cs : List Value} {x : DataW H × List MemPlace} (h : DataW.trod enc Tryz.prog w 0 spare held fuel 34 cs = some x) (hl : cs.length = 6) :
    ∃ (no a b : Int) (s t : ByteArray) (pa : Option Addr) (pn pc : Nat), cs = [.int .i64 no, .int .i64 a, .int .i64 b, .string s, .string t, .slice pa pn pc] ∧ (-9223372036854775808 ≤ a ∧ a ≤ 9223372036854775807) ∧ (-9223372036854775808 ≤ b ∧ b ≤ 9223372036854775807) ∧ s.size ≤ maxLen ∧ t.size ≤ maxLen := by
  have k3 : Tryz.prog.cellsOf 3 = 1 := by kernel_rfl
  have k9 : Tryz.prog.cellsOf 9 = 1 := by kernel_rfl
  have kp : Tryz.prog.cellsOf 32 = 1 := by kernel_rfl
  obtain ⟨x0, x1, x2, x3, x4, x5, rfl⟩ := six hl
  obtain ⟨xs, n', _, _, _, hxl, hg⟩ := DataW.trod_struct Tryz.underlying34 h
  obtain ⟨y0, y1, y2, y3, y4, y5, rfl⟩ := six hxl
  have g0 : DataW.trod enc Tryz.prog w 0 spare held n' 3 ((([x0, x1, x2, x3, x4, x5] : List Value).drop 0).take (Tryz.prog.cellsOf 3)) = some y0 := hg 0 _ rfl
  have g1 : DataW.trod enc Tryz.prog w 0 spare held n' 3 ((([x0, x1, x2, x3, x4, x5] : List Value).drop 1).take (Tryz.prog.cellsOf 3)) = some y1 := hg 1 _ rfl
  have g2 : DataW.trod enc Tryz.prog w 0 spare held n' 3 ((([x0, x1, x2, x3, x4, x5] : List Value).drop 2).take (Tryz.prog.cellsOf 3)) = some y2 := hg 2 _ rfl
  have g3 : DataW.trod enc Tryz.prog w 0 spare held n' 9 ((([x0, x1, x2, x3, x4, x5] : List Value).drop 3).take (Tryz.prog.cellsOf 9)) = some y3 := hg 3 _ rfl
  have g4 : DataW.trod enc Tryz.prog w 0 spare held n' 9 ((([x0, x1, x2, x3, x4, x5] : List Value).drop 4).take (Tryz.prog.cellsOf 9)) = some y4 := hg 4 _ rfl
  have g5 : DataW.trod enc Tryz.prog w 0 spare held n' 32 ((([x0, x1, x2, x3, x4, x5] : List Value).drop 5).take (Tryz.prog.cellsOf 32)) = some y5 := hg 5 _ rfl
  rw [k3] at g0 g1 g2
  rw [k9] at g3 g4
  rw [kp] at g5
  obtain ⟨c0, e0, _, hw0⟩ := DataW.trod_int Tryz.underlying3 g0
  obtain ⟨c1, e1, _, hw1⟩ := DataW.trod_int Tryz.underlying3 g1
  obtain ⟨c2, e2, _, hw2⟩ := DataW.trod_int Tryz.underlying3 g2
  obtain ⟨s3, e3, _, hs3⟩ := DataW.trod_string Tryz.underlying9 g3
  obtain ⟨s4, e4, _, hs4⟩ := DataW.trod_string Tryz.underlying9 g4
  simp only [List.drop_zero, List.drop_succ_cons, List.take_succ_cons, List.take_zero, List.cons.injEq, and_true] at e0 e1 e2 e3 e4 g5
  subst e0 e1 e2 e3 e4
  obtain ⟨pa, pn, pc, rfl⟩ := open_chs g5
  exact ⟨c0, c1, c2, s3, s4, pa, pn, pc, rfl, bounds_i64 hw1, bounds_i64 hw2, hs3, hs4⟩
theorem open_steps {H : Type} {enc : TypeId × Value → H} {w : World} {d : DataW H} {p : List MemPlace} {A : Option Addr} {len cap : Nat}
    (h : DataW.Trod enc Tryz.prog w 0 (fun _ => true) true 22 (.slice A len cap) d p) : StpsAt w.heap.size w A len := by
  obtain ⟨fuel, hf⟩ := h
  rcases open_slice Tryz.underlying22 hf with ⟨hcs, _⟩ | ⟨a, l, c, m, n, D, Pl, hcs, _, hl, hm, hmm, _, hi⟩
  · simp [Value.cells] at hcs
    obtain ⟨rfl, rfl, rfl⟩ := hcs
    exact ⟨by omega, fun i hi => absurd hi (by omega)⟩
  · simp [Value.cells] at hcs
    obtain ⟨rfl, rfl, rfl⟩ := hcs
    simp only [if_true] at hmm
    subst hmm
    have hC : Tryz.prog.cellsOf 36 = 7 := by kernel_rfl
    have k3 : Tryz.prog.cellsOf 3 = 1 := by kernel_rfl
    have k6 : Tryz.prog.cellsOf 34 = 6 := by kernel_rfl
    simp only [hC] at hi
    refine ⟨by omega, fun i hil => ?_⟩
    have hsp : a.spot = none := by
      obtain ⟨cs', hc, _⟩ := hi 0 (by omega)
      obtain ⟨_, hcl, hat⟩ := World.cells?_some hc
      obtain ⟨x0, x1, x2, x3, x4, x5, x6, rfl⟩ := seven hcl
      have := World.cell?_spot (hat 0 (by omega))
      simpa [Addr.add] using this
    obtain ⟨cs', hc, ht⟩ := hi i (by omega)
    obtain ⟨_, hcl, hat⟩ := World.cells?_some hc
    obtain ⟨x0, x1, x2, x3, x4, x5, x6, rfl⟩ := seven hcl
    obtain ⟨xs, n', _, _, _, hxl, hg⟩ := DataW.trod_struct Tryz.underlying36 ht
    obtain ⟨y0, y1, rfl⟩ := two hxl
    have g0 : DataW.trod enc Tryz.prog w 0 (fun _ => true) true n' 3 ((([x0, x1, x2, x3, x4, x5, x6] : List Value).drop 0).take (Tryz.prog.cellsOf 3)) = some y0 := hg 0 _ rfl
    have g1 : DataW.trod enc Tryz.prog w 0 (fun _ => true) true n' 34 ((([x0, x1, x2, x3, x4, x5, x6] : List Value).drop 1).take (Tryz.prog.cellsOf 34)) = some y1 := hg 1 _ rfl
    rw [k3] at g0
    rw [k6] at g1
    obtain ⟨c0, e0, _, hwf⟩ := DataW.trod_int Tryz.underlying3 g0
    simp only [List.drop_zero, List.drop_succ_cons, List.take_succ_cons, List.take_zero, List.cons.injEq, and_true] at e0 g1
    subst e0
    obtain ⟨no, aa, bb, s, t, pa, pn, pc, e, ha, hb, hs, ht4⟩ := call_parts g1 rfl
    simp only [List.cons.injEq, and_true] at e
    obtain ⟨rfl, rfl, rfl, rfl, rfl, rfl⟩ := e
    have z0 := hat 0 (by omega)
    have z1 := hat 1 (by omega)
    have z2 := hat 2 (by omega)
    have z3 := hat 3 (by omega)
    have z4 := hat 4 (by omega)
    have z5 := hat 5 (by omega)
    have z6 := hat 6 (by omega)
    obtain ⟨b, o, sp⟩ := a
    obtain rfl : sp = none := hsp
    simp only [Addr.add_lit] at z0 z1 z2 z3 z4 z5 z6
    exact ⟨⟨c0, no, aa, bb, s, t, pa, pn, pc⟩, b, o, rfl, block_of_cell z0, z0, z1, z2, z3, z4, z5, z6, bounds_i64 hwf, ha, hb, hs, ht4⟩
end Go.Proofs.YtmilagppbepnbaaGreat.Kn
/- GateStrangers: the walk of the law. No condition. -/
namespace Go.Proofs.YtmilagppbepnbaaGreat.Kn
open Go.RowKit Go.PlainAid
set_option linter.unusedVariables false
set_option linter.unusedSimpArgs false
attribute [local go_sem] Oper.semAt_some
def dT : ByteArray := ⟨#[100]⟩
noncomputable def st1 : Ker := (callM aw0 1 ⟨17, 511, 0, dT, eT⟩).ker
noncomputable def st2 : Ker := (callM st1 1 ⟨7, 0, 0, eT, eT⟩).ker
noncomputable def st3 : Ker := (callM st2 1 ⟨8, 0, 0, eT, eT⟩).ker
theorem st_inv : Inv 2 1 st1 ∧ Inv 3 1 st2 ∧ Inv 4 1 st3 := by
  have h1 : Inv 2 1 st1 := inv_call inv_new (by omega) 1 ⟨17, 511, 0, dT, eT⟩
  have h2 : Inv 3 1 st2 := inv_call h1 (by omega) 1 ⟨7, 0, 0, eT, eT⟩
  exact ⟨h1, h2, inv_call h2 (by omega) 1 ⟨8, 0, 0, eT, eT⟩⟩
theorem st_two : ∃ P, ask st3.procs 2 = some P ∧ P.ended = false ∧ P.dir = 1 ∧ P.mask = 18 :=
  ⟨pOf st3 2, by kernel_rfl, by kernel_rfl, by kernel_rfl, by kernel_rfl⟩
theorem st_path {b z : Nat} {K : Ker} (hI : Inv b z K) {P : Prc} (hP : ask K.procs 2 = some P) (he : P.ended = false) (hd : P.dir = 1) : callM K 2 ⟨25, 0, 0, eT, eT⟩ = ⟨0, 0, slT, 0, false, K⟩ := by
  unfold callM
  rw [show liveM K 2 = some 2 from live_of (n := 2) hP he]
  dsimp only
  rw [hP]
  dsimp only
  have hw : waitsM K 2 P ⟨25, 0, 0, eT, eT⟩ = false := rfl
  have ha : ansM K 2 P ⟨25, 0, 0, eT, eT⟩ = ⟨0, 0, slT, 0, K⟩ := by
    show (⟨0, 0, (PathM K.fs P.dir).1, (PathM K.fs P.dir).2, K⟩ : Ans) = _
    rw [hd, show ((1 : Nat) : Int) = 1 from rfl, path_root hI.wf]
    rfl
  rw [hw, if_neg (by decide), ha]
  rfl
theorem st_mask {K : Ker} {P : Prc} (hP : ask K.procs 2 = some P) (he : P.ended = false) (hm : P.mask = 18) : (callM K 2 ⟨13, 18, 0, eT, eT⟩).n1 = 18 := by
  unfold callM
  rw [show liveM K 2 = some 2 from live_of (n := 2) hP he]
  dsimp only
  rw [hP]
  dsimp only
  have hw : waitsM K 2 P ⟨13, 18, 0, eT, eT⟩ = false := rfl
  rw [hw, if_neg (by decide), show (ansM K 2 P ⟨13, 18, 0, eT, eT⟩).er = 0 from rfl, if_pos rfl]
  exact hm
set_option maxRecDepth 100000 in
set_option maxHeartbeats 8000000 in
theorem strangers_walk (A : Option Addr) (len cap : Nat) (w : World) (h0 : StpsAt w.heap.size w A len) :
    Calls Tryz.prog 8 #[.slice A len cap] w fun e w' => e = .returned (.bool true) ∧ Below w.heap.size w w' := by
  have hlm := h0.1
  unfold maxLen at hlm
  have h0H := Lib.hid h0
  obtain ⟨P2, hp1, hp2, hp3, hp4⟩ := st_two
  obtain ⟨i1, i2, i3⟩ := st_inv
  have hp1H := Lib.hid hp1; have hp2H := Lib.hid hp2; have hp3H := Lib.hid hp3; have hp4H := Lib.hid hp4
  have i1H := Lib.hid i1; have i2H := Lib.hid i2; have i3H := Lib.hid i3
  clear h0 hp1 hp2 hp3 hp4 i1 i2 i3
  obtain ⟨F, hF⟩ : ∃ F, tabF P2.tab = F := ⟨_, rfl⟩
  have hFH := Lib.hid hF
  clear hF
  go_enter Tryz.func8, Tryz.ntmps8
  go_upto_region 4 with (first
    | (go_at_call 10; refine (awake_any _).mono ?_; rintro e w1 ⟨rfl, hB⟩; have hB1 := Lib.hid hB; clear hB)
    | (go_at_call 11; refine (own_new w1).mono ?_; rintro e w2 ⟨q, rfl, hO⟩; have hO0 := Lib.hid (OwnG.start hO); clear hO))
  go_upto_region 5 with (go_at_call 15; refine (hO0.out.callOwn inv_new (by omega) 1 17 511 0 dT eT none 0 0 (by decide +kernel) (by decide +kernel) (by decide) (.inr (.inr (.inl rfl)))).mono ?_; rintro e w3 ⟨⟨la, ln, lc, x0, x1, x2, x3, x4, rfl⟩, hO⟩; have hO1 := Lib.hid hO; clear hO)
  go_upto_region 6 with (go_at_call 15; refine (hO1.out.callOwn (K := st1) i1H.out (by omega) 1 7 0 0 eT eT none 0 0 (by decide +kernel) (by decide +kernel) (by decide) (.inl (.inr (.inr (.inr (.inl rfl)))))).mono ?_; rintro e w4 ⟨⟨la, ln, lc, x0, x1, x2, x3, x4, rfl⟩, hO⟩; have hO2 := Lib.hid hO; clear hO)
  go_upto_region 7 with (go_at_call 15; refine (hO2.out.callOwn (K := st2) i2H.out (by omega) 1 8 0 0 eT eT none 0 0 (by decide +kernel) (by decide +kernel) (by decide) (.inr (.inl rfl))).mono ?_; rintro e w5 ⟨⟨la, ln, lc, x0, x1, x2, x3, x4, rfl⟩, hO⟩; have hO3 : Hid (OwnG (fun _ => False) w1 w1 w5 q st3) := Lib.hid hO; clear hO)
  clear hO0 hO1 hO2
  have htab : Hid (Calls Tryz.prog 18 #[.pointer (some ⟨q, 0, none⟩), .int .i64 2] w5 fun e w' => ∃ g, e = .returned (.slice (some ⟨g, 0, none⟩) 32 32) ∧ RowF w' g F ∧ OwnG (fun x => x = g) w' w1 w' q st3) := Lib.hid (by
    obtain ⟨B, M, k1, k2, k3, k4⟩ := hO3.out
    refine (table_any k1 (live_of (n := 2) hp1H.out hp2H.out) hp1H.out).mono ?_
    rintro e w' ⟨g, rfl, hg, hr, hb⟩
    rw [hFH.out] at hr
    exact ⟨g, rfl, hr, (hO3.out.keep hb).less (fun x hx => .inr (by subst hx; exact ⟨hg, hr.lt⟩))⟩)
  go_upto_region 8 with (go_at_call 18; refine htab.out.mono ?_; rintro e w6 ⟨g1, rfl, hr1, hO⟩; have hR1 := Lib.hid hr1; have hO4 := Lib.hid hO; clear hO hr1)
  clear htab hO3
  go_wp2_with fail
  go_loopw [29] (fun s29 wr => ∃ (i z : Nat) (K : Ker), i ≤ len ∧ i ≤ 80 ∧ s29 = .int .i64 i ∧ Hid (Inv (4 + i) z K) ∧ Hid (ask K.procs 2 = some P2) ∧ Hid (OwnG (fun x => x = g1) w6 w1 wr q K)) (fun s29 _ => len - (intOf s29).toNat)
  case atStart => exact ⟨0, 1, st3, by omega, by omega, rfl, i3H, hp1H, hO4⟩
  case round =>
    obtain ⟨i, z, K, hi, hi8, rfl, hI, hP, hO⟩ := hrel
    by_cases hil : i < len ∧ i < 80
    · obtain ⟨hil, hi9⟩ := hil
      have hbw : Below w.heap.size w wr := hB1.out.trans (hO.out.bel.mono hB1.out.size)
      obtain ⟨p, hp⟩ := (h0H.out.below hbw).2 i hil
      obtain ⟨b, off, rfl, hb, z0, z1, z2, z3, z4, z5, z6, z7, z8, z9, z10, z11⟩ := hp
      have hil2 : (i : Int) < len := by omega
      have hn8 : ¬ ((i : Int) = 80) := by omega
      obtain ⟨pid, no, a, b', s, t, pa, pn, pc⟩ := p
      dsimp only at z0 z1 z2 z3 z4 z5 z6 z7 z8 z9 z10 z11
      go_upto_region 11 with fail
      obtain ⟨k, hk⟩ : ∃ k, wr.heap.size = k := ⟨_, rfl⟩
      refine gen_w (Q := fun W => Code.wp _ _ _ _ W) (fun W => Hid (Below wr.heap.size wr W) ∧ Blk W k 36 #[.int .i64 pid, .int .i64 no, .int .i64 a, .int .i64 b', .string s, .string t, .slice pa pn pc]) _ ⟨Lib.hid ((Below.refl _ _).alloc (Nat.le_refl _) _), by rw [← hk]; exact Blk.new _ _ _⟩ ?_
      rintro W ⟨hbW, hBW⟩
      have c1 : W.cell? ⟨k, 1, none⟩ = some (.int .i64 no) := hBW.cell 1
      have c2 : W.cell? ⟨k, 2, none⟩ = some (.int .i64 a) := hBW.cell 2
      have c3 : W.cell? ⟨k, 3, none⟩ = some (.int .i64 b') := hBW.cell 3
      have c4 : W.cell? ⟨k, 4, none⟩ = some (.string s) := hBW.cell 4
      have c5 : W.cell? ⟨k, 5, none⟩ = some (.string t) := hBW.cell 5
      have c6 : W.cell? ⟨k, 6, none⟩ = some (.slice pa pn pc) := hBW.cell 6
      have hOW := Lib.hid (hO.out.below hbW.out)
      rw [hk]
      have hsH := Lib.hid (And.intro z9.2 (And.intro z10 z11))
      clear z0 z1 z2 z3 z4 z5 z6 z7 z8 z9 z10 z11 hBW hbW hk hbw
      by_cases hno : isOwn no
      · have hcall := Lib.hid (hOW.out.callOwn hI.out (by omega) 1 no a b' s t pa pn pc hsH.out.2.1 hsH.out.2.2 hsH.out.1 (.inl hno))
        have hnext : Hid (ask (callM K 1 ⟨no, a, b', s, t⟩).ker.procs 2 = some P2) := Lib.hid ((far_call hno (by decide)).trans hP.out)
        have hinv := Lib.hid (inv_call hI.out (by omega) 1 ⟨no, a, b', s, t⟩)
        obtain ⟨T, hT⟩ : ∃ T, callM K 1 ⟨no, a, b', s, t⟩ = T := ⟨_, rfl⟩
        rw [hT] at hcall hnext hinv
        clear hT hI hP hO hOW hsH
        rcases hno with hno | hno | hno | hno | hno | hno | hno | hno | hno <;> subst hno
        all_goals
          go_wp2_with (go_at_call 15; refine hcall.out.mono ?_; rintro e w7 ⟨⟨la, ln, lc, x0, x1, x2, x3, x4, rfl⟩, hO⟩; have hO9 := Lib.hid hO; clear hO)
          go_roundw
          case rel => exact ⟨i + 1, _, _, by omega, by omega, by go_num, hinv, hnext, hO9⟩
          case measure => simp [intOf]; omega
      · obtain ⟨n4, n5, n6, n7, n9, n12, n13, n24, n28⟩ : no ≠ 4 ∧ no ≠ 5 ∧ no ≠ 6 ∧ no ≠ 7 ∧ no ≠ 9 ∧ no ≠ 12 ∧ no ≠ 13 ∧ no ≠ 24 ∧ no ≠ 28 := by unfold isOwn at hno; omega
        clear hno
        go_wp2_with fail
        go_roundw
        case rel => exact ⟨i + 1, z, K, by omega, by omega, by go_num, Lib.hid (hI.out.more (by omega) (Nat.le_refl _)), hP, hOW⟩
        case measure => simp [intOf]; omega
    · have hx : i = len ∨ i < len ∧ i = 80 := by omega
      have tail : ∀ W, Below wr.heap.size wr W → Calls Tryz.prog 18 #[.pointer (some ⟨q, 0, none⟩), .int .i64 2] W fun e w' => ∃ g, e = .returned (.slice (some ⟨g, 0, none⟩) 32 32) ∧ RowF w' g1 F ∧ RowF w' g F ∧ OwnG (fun x => x = g ∨ x = g1) w' w1 w' q K := fun W hW => by
        have hOW := hO.out.below hW
        have hOW' := hOW
        obtain ⟨B, M, k1, k2, k3, k4⟩ := hOW'
        refine (table_any k1 (live_of (n := 2) hP.out hp2H.out) hP.out).mono ?_
        rintro e w' ⟨g, rfl, hg, hr, hb⟩
        rw [hFH.out] at hr
        obtain ⟨a1, a2⟩ := hOW.at_ (g := g1) rfl
        have hr1 : RowF w' g1 F := (hR1.out.keep a2).keep (hb.block g1 a1)
        exact ⟨g, rfl, hr1, hr, (hOW.keep hb).less (fun x hx => by
          rcases hx with rfl | rfl
          · exact .inr ⟨hg, hr.lt⟩
          · exact .inl rfl)⟩
      have tailH := Lib.hid tail
      have hbw : Below w.heap.size w wr := hB1.out.trans (hO.out.bel.mono hB1.out.size)
      have h80 : i < len → ∃ b off p, A = some ⟨b, off, none⟩ ∧ StpAt w.heap.size wr (some ⟨b, off, none⟩) i p := fun hil => by
        obtain ⟨p, hp⟩ := (h0H.out.below hbw).2 i hil
        obtain ⟨b, off, rfl, h⟩ := hp
        exact ⟨b, off, p, rfl, b, off, rfl, h⟩
      rcases hx with rfl | ⟨hil, rfl⟩
      case' inl =>
        clear tail h80 hbw
        go_upto_region 24 with fail
        refine gen_w (Q := fun W => Code.wp _ _ _ _ W) (fun W => Hid (Below wr.heap.size wr W)) _ (Lib.hid (Below.refl _ _)) ?_
      case' inr =>
        obtain ⟨b, off, p, rfl, b2, off2, e2, hb, z0, z1, z2, z3, z4, z5, z6, z7, z8, z9, z10, z11⟩ := h80 hil
        cases e2
        have hil2 : (80 : Int) < len := by omega
        clear tail h80 hbw
        go_upto_region 24 with fail
        refine gen_w (Q := fun W => Code.wp _ _ _ _ W) (fun W => Hid (Below wr.heap.size wr W)) _ (Lib.hid ((Below.refl _ _).alloc (Nat.le_refl _) _)) ?_
        clear z0 z1 z2 z3 z4 z5 z6 z7 z8 z9 z10 z11
      all_goals
        rintro W hbW
        go_upto_region 25 with (go_at_call 18; refine (tailH.out W hbW.out).mono ?_; rintro e w6 ⟨g2, rfl, hr1, hr2, hO⟩; have hS1 := Lib.hid hr1; have hS2 := Lib.hid hr2; have hO5 := Lib.hid hO; clear hO hr1 hr2)
        go_wp2_with fail
        go_loopw [63] (fun s63 wx => ∃ (j : Nat), j ≤ 32 ∧ s63 = .int .i64 j ∧ Hid (OwnG (fun x => x = g2 ∨ x = g1) w6 w1 wx q K)) (fun s63 _ => 32 - (intOf s63).toNat)
        case atStart => exact ⟨0, by omega, rfl, hO5⟩
        case round =>
          obtain ⟨j, hj, rfl, hO6⟩ := hrel
          by_cases hj2 : j < 32
          · obtain ⟨a1, a2⟩ := hO6.out.at_ (g := g1) (.inr rfl)
            obtain ⟨b1, b2⟩ := hO6.out.at_ (g := g2) (.inl rfl)
            have hrj : wr.cell? ⟨g2, j, none⟩ = some (.int .i64 (F j)) := (hS2.out.keep b2).c j hj2
            have hrk : wr.cell? ⟨g1, j, none⟩ = some (.int .i64 (F j)) := (hS1.out.keep a2).c j hj2
            have hj3 : (j : Int) < 32 := by omega
            have hO7 := hO6
            clear hO6 a1 a2 b1 b2 tailH hI hP
            go_upto_region 30 with fail
            go_quiet (fail)
            go_wp2_with fail
            go_roundw
            case rel => exact ⟨j + 1, by omega, by go_num, Lib.hid (hO7.out.below ⟨rfl, rfl, rfl, Nat.le_refl _, fun _ _ => rfl⟩)⟩
            case measure => simp [intOf]; omega
          · obtain rfl : j = 32 := by omega
            have hpath := Lib.hid (hO6.out.callOwn hI.out (by omega) 2 25 0 0 eT eT none 0 0 (by decide +kernel) (by decide +kernel) (by decide) (.inr (.inr (.inr rfl))))
            rw [st_path hI.out hP.out hp2H.out hp3H.out] at hpath
            go_upto_region 33 with fail
            go_upto_region 34 with (go_at_call 15; refine hpath.out.mono ?_; rintro e w8 ⟨⟨la, ln, lc, x0, x1, x2, x3, x4, rfl⟩, hO⟩; have hO7 := Lib.hid hO; clear hO)
            obtain ⟨k, hk⟩ : ∃ k, w8.heap.size = k := ⟨_, rfl⟩
            refine gen_w (Q := fun W => Code.wp _ _ _ _ W) (fun W => Hid (Below w8.heap.size w8 W) ∧ Hid (Blk W k 44 #[.int .i64 0, .int .i64 0, .string slT, .slice la ln lc, .int .i64 x0, .int .i64 x1, .int .i64 x2, .int .i64 x3, .int .i64 x4, .int .i64 0])) _ ⟨Lib.hid ((Below.refl _ _).alloc (Nat.le_refl _) _), Lib.hid (by rw [← hk]; exact Blk.new _ _ _)⟩ ?_
            rintro W2 ⟨hbW2, hB2⟩
            rw [hk]
            have hO8 := Lib.hid ((hO7.out.below hbW2.out).keep (Below.refl _ _))
            have hkl : k < W2.heap.size := hB2.out.lt
            have hmask := Lib.hid (((hO7.out.keep hbW2.out).less (R' := fun x => x = k) (fun x hx => .inr (by subst hx; exact ⟨by omega, hkl⟩))).callOwn hI.out (by omega) 2 13 18 0 eT eT none 0 0 (by decide +kernel) (by decide +kernel) (by decide) (.inl (.inr (.inr (.inr (.inr (.inr (.inr (.inl rfl)))))))))
            obtain ⟨T, hT⟩ : ∃ T, callM K 2 ⟨13, 18, 0, eT, eT⟩ = T := ⟨_, rfl⟩
            have hT1 : T.n1 = 18 := by rw [← hT]; exact st_mask hP.out hp2H.out hp4H.out
            rw [hT] at hmask
            clear hO7 hO8 hpath tailH hbW2
            go_upto_region 35 with (go_at_call 15; refine hmask.out.mono ?_; rintro e w9 ⟨⟨la2, ln2, lc2, y0, y1, y2, y3, y4, rfl⟩, hO⟩; have hO9 := Lib.hid hO; clear hO)
            obtain ⟨k2, hk2⟩ : ∃ k, w9.heap.size = k := ⟨_, rfl⟩
            refine gen_w (Q := fun W => Code.wp _ _ _ _ W) (fun W => Hid (Below w9.heap.size w9 W) ∧ Hid (Blk W k2 44 #[.int .i64 18, .int .i64 T.n2, .string T.st, .slice la2 ln2 lc2, .int .i64 y0, .int .i64 y1, .int .i64 y2, .int .i64 y3, .int .i64 y4, .int .i64 T.er])) _ ⟨Lib.hid ((Below.refl _ _).alloc (Nat.le_refl _) _), Lib.hid (by rw [← hk2]; exact Blk.new _ _ _)⟩ ?_
            rintro W3 ⟨hbW3, hB3⟩
            rw [hk2]
            obtain ⟨a1, a2⟩ := hO9.out.at_ (g := k) rfl
            have hB2' : Blk W3 k 44 #[.int .i64 0, .int .i64 0, .string slT, .slice la ln lc, .int .i64 x0, .int .i64 x1, .int .i64 x2, .int .i64 x3, .int .i64 x4, .int .i64 0] := (hB2.out.keep a2).keep (hbW3.out.block k a1)
            have u2 : W3.cell? ⟨k, 2, none⟩ = some (.string ⟨#[47]⟩) := hB2'.cell 2
            have u0 : W3.cell? ⟨k2, 0, none⟩ = some (.int .i64 18) := hB3.out.cell 0
            have hend : Hid (Below w.heap.size w W3) := Lib.hid (hB1.out.trans (((hO9.out.bel).trans (hbW3.out.mono hO9.out.bel.size)).mono hB1.out.size))
            clear hB2' hB2 hB3 a1 a2 hO9 hbW3 hmask
            go_wp2_with fail
            go_ret
            exact ⟨rfl, hend.out⟩
end Go.Proofs.YtmilagppbepnbaaGreat.Kn
