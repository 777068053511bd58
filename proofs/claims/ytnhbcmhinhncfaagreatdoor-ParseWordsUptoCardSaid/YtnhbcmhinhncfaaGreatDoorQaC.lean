/- Redirections behind a command. Condition: the parser lies as stated. -/
import Derived.Test.YtnhbcmhinhncfaaGreatDoorQaB
namespace Go.Proofs.YtnhbcmhinhncfaaGreatDoor
open Go.RowKit Go.Shelf Go.PlainAid
set_option linter.unusedVariables false
set_option linter.unusedSimpArgs false
attribute [local go_sem] Oper.semAt_some
section
variable {b : Nat} {s : ByteArray} {w : World} {st : PS}
theorem An.fill_ {v : Value} {e : Ending} {w' : World} (h : An b s w v st e w') : An b s w v (fill s st) e w' := ⟨h.1, h.2.1.fill, h.2.2⟩
/-- A closure's copy of the parser's pointer. -/
abbrev Bx (b q : Nat) (W : World) : Prop := Blk W q 53 #[ptr b]
set_option maxRecDepth 100000 in
set_option maxHeartbeats 2000000 in
theorem reds1_f {q : Nat} (x : Rd) (hb : Bx b q w) (hqb : q ≠ b) (h : PF b s w st) : Calls Tryz.prog 115 #[rdV x, ptr q] w (An b s w (.bool (redT (peekP s st))) (fill s st)) := by
  have hb1 : Below w.heap.size w (w.alloc (.cells (rdC5 x) 50)) := (Below.refl _ _).alloc (Nat.le_refl _) _
  have hq := Lib.hid (show Bx b q (w.alloc (.cells (rdC5 x) 50)) from hb.alloc _)
  have hr := Lib.hid (isRed_f (h.below hb1))
  have hF := Lib.hid (Fb.of_below (b := b) hb1)
  obtain ⟨r, hr2⟩ : ∃ r, redT (peekP s st) = r := ⟨_, rfl⟩
  rw [hr2] at hr ⊢
  obtain ⟨W, hW⟩ : ∃ W, w.alloc (.cells (rdC5 x) 50) = W := ⟨_, rfl⟩
  rw [hW] at hr hF hq
  have c0 : W.cell? ⟨q, 0, none⟩ = some (ptr b) := hq.out.cell 0
  unfold rdC5 at hW
  have hWH := Lib.hid hW
  clear hW hb1 h hb hr2
  go_enter Tryz.func115, Tryz.ntmps115
  go_upto_region 1 with fail
  rw [hWH.out]
  go_wp2_with (go_at_call 106; refine hr.out.mono ?_; rintro e w2 ⟨rfl, hA2, hF2⟩; have hA2H := Lib.hid hA2; have hF2H := Lib.hid hF2; clear hA2 hF2)
  go_ret
  exact ⟨rfl, hA2H.out.fill, hF.out.trans hF2H.out⟩
theorem enters_rd : Enters Tryz.prog 107 := enters_of Tryz.func107 (by kernel_rfl) rfl
theorem enters_rd1 : Enters Tryz.prog 115 := enters_of Tryz.func115 (by kernel_rfl) rfl
/-- What answers a row. -/
def RowAn {X : Type} {k : Nat} (E : Elm X k) (ty : TypeId) (b : Nat) (s : ByteArray) (w : World) (l : List X) (st : PS) (e : Ending) (w' : World) : Prop :=
  ∃ a c T, e = .returned (.slice a l.length c) ∧ Done E ty w' T (.slice a l.length c) l ∧ (∀ g, T g → w.heap.size ≤ g ∧ g < w'.heap.size) ∧ PF b s w' st ∧ Fb b w w'
set_option maxRecDepth 100000 in
set_option maxHeartbeats 2000000 in
theorem redirections_f (h : PF b s w st) : Calls Tryz.prog 99 #[ptr b] w (RowAn ElR 50 b s w (redsP s st).1 (redsP s st).2) := by
  have hmf : ∀ (fn : Fn) (first cap : Array Value) (w : World), (Instr.makeFunc fn first cap).run Tryz.prog w = .ok (.func fn first cap) w := fun _ _ _ _ => rfl
  obtain ⟨q, hq⟩ : ∃ q, w.heap.size = q := ⟨_, rfl⟩
  have hlt := h.lt
  have hqb : q ≠ b := by omega
  have hb1 : Below w.heap.size w (w.alloc (.cells #[ptr b] 53)) := (Below.refl _ _).alloc (Nat.le_refl _) _
  have hB := Lib.hid (show Bx b q (w.alloc (.cells #[ptr b] 53)) by rw [← hq]; exact Blk.new _ _ _)
  have hA1 := Lib.hid (h.below hb1)
  have hF1 := Lib.hid (Fb.of_below (b := b) hb1)
  have hs1 := Lib.hid hb1.size
  obtain ⟨W, hW⟩ : ∃ W, w.alloc (.cells #[ptr b] 53) = W := ⟨_, rfl⟩
  rw [hW] at hB hA1 hF1 hs1
  have hWH := Lib.hid hW
  have c0 : W.cell? ⟨q, 0, none⟩ = some (ptr b) := hB.out.cell 0
  have hr := Lib.hid (isRed_f hA1.out)
  have hqH := Lib.hid hq
  have hok := Lib.hid h.ok
  clear hW hb1 h hq
  cases hm : redT (peekP s st)
  · have he := Lib.hid (show redsP s st = ([], fill s st) by unfold redsP; rw [hm]; rfl)
    rw [hm] at hr
    rw [he.out]
    go_enter Tryz.func99, Tryz.ntmps99
    go_upto_region 1 with fail
    rw [hWH.out, hqH.out]
    go_wp2_with (go_at_call 106; refine hr.out.mono ?_; rintro e w2 ⟨rfl, hA2, hF2⟩; have hA2H := Lib.hid hA2; have hF2H := Lib.hid hF2; clear hA2 hF2)
    go_ret
    exact ⟨none, 0, fun _ => False, rfl, Done.nil _ _ _ _, fun g h => h.elim, hA2H.out.fill, hF1.out.trans hF2H.out⟩
  · have he := Lib.hid (show redsP s st = ser s (redP s) (fun _ st => (redT (peekP s st), fill s st)) (fill s st) by unfold redsP; rw [hm]; rfl)
    rw [hm] at hr
    rw [he.out]
    have hser := Lib.hid (fun (W2 : World) (h1 : Bx b q W2) (h2 : PF b s W2 (fill s st)) => serR_any (R := redP s) (M := fun _ st => (redT (peekP s st), fill s st)) 107 115 #[ptr b] #[] #[] #[ptr q] enters_rd enters_rd1 (Bx b q) (fun W W' hc hf => hf.blk hc hqb) (fun W st hc hp => redirection_f hp) (fun W st x hc hp => reds1_f x hc hqb hp) (fun st hp => (red_more hp).ok) (fun st hp hm => red_less hp hm) h2 h1)
    obtain ⟨A, hA⟩ : ∃ A, ser s (redP s) (fun _ st => (redT (peekP s st), fill s st)) (fill s st) = A := ⟨_, rfl⟩
    rw [hA] at hser ⊢
    clear hA
    go_enter Tryz.func99, Tryz.ntmps99
    go_upto_region 1 with fail
    rw [hWH.out, hqH.out]
    go_wp2_with (first
      | (go_at_call 114; refine (hser.out _ hB2.out hA2H.out.fill).mono ?_; rintro e w3 ⟨a3, c3, T3, rfl, hD3, hT3, hA3, hF3⟩; have hX3 := Lib.hid (And.intro hD3 (And.intro hT3 (And.intro hA3 hF3))); clear hD3 hT3 hA3 hF3)
      | (go_at_call 106; refine hr.out.mono ?_; rintro e w2 ⟨rfl, hA2, hF2⟩; have hA2H := Lib.hid hA2; have hF2H := Lib.hid hF2; have hB2 := Lib.hid (hF2.blk hB.out hqb); have d0 : w2.cell? ⟨q, 0, none⟩ = some (ptr b) := hB2.out.cell 0; clear hA2 hF2))
    go_ret
    obtain ⟨hD3, hT3, hA3, hF3⟩ := hX3.out
    have hs2 := hF2H.out.size
    exact ⟨a3, c3, T3, rfl, hD3, fun g hg => ⟨by have := (hT3 g hg).1; have := hs1.out; omega, (hT3 g hg).2⟩, hA3, (hF1.out.trans hF2H.out).trans hF3⟩
end
end Go.Proofs.YtnhbcmhinhncfaaGreatDoor
/- A series of texts; patterns. Condition: the parser lies as stated. -/
namespace Go.Proofs.YtnhbcmhinhncfaaGreatDoor
open Go.RowKit Go.Shelf Go.PlainAid
set_option linter.unusedVariables false
set_option linter.unusedSimpArgs false
attribute [local go_sem] Oper.semAt_some
theorem infoSt : (Tryz.prog.info? 9).map (fun i => (i.zero, i.size, i.bytes)) = some (some (.string ByteArray.empty), 1, 16) := by kernel_rfl
section
variable {b : Nat} {s : ByteArray} {w : World} {st : PS} {R : PS → ByteArray × PS} {M : ByteArray → PS → Bool × PS}
/-- What holds at the head of the loop. -/
structure StI (b : Nat) (s : ByteArray) (w : World) (st : PS) (R : PS → ByteArray × PS) (M : ByteArray → PS → Bool × PS) (CI : World → Prop) (st0 : PS) (x : ByteArray) (T : Nat → Prop) (v : Value) (xs : List ByteArray) (W : World) : Prop where
  pf : PF b s W (R st0).2
  ok0 : PW s st0
  ci : CI W
  fb : Fb b w W
  row : RowOf ElS 9 w.heap.size W T v xs
  ser : ser s R M st = (xs ++ (serM (s := s) R M x (R st0).2).1, (serM (s := s) R M x (R st0).2).2)
  ln : xs.length + rem s st0 ≤ 140001
  xe : x = (R st0).1
set_option maxRecDepth 100000 in
set_option maxHeartbeats 4000000 in
theorem serS_any (kR kM : Nat) (fi1 ca1 fi2 ca2 : Array Value) (hE1 : Enters Tryz.prog kR) (hE2 : Enters Tryz.prog kM) (CI : World → Prop) (hCI : ∀ W W', CI W → Fb b W W' → CI W')
    (hR : ∀ W st, CI W → PF b s W st → Calls Tryz.prog kR (fi1 ++ ca1) W (An b s W (.string (R st).1) (R st).2))
    (hM : ∀ W st x, CI W → PF b s W st → Calls Tryz.prog kM (fi2 ++ #[.string x] ++ ca2) W (An b s W (.bool (M x st).1) (M x st).2))
    (hP : ∀ st, PW s st → PW s (M (R st).1 (R st).2).2) (hd : ∀ st, PW s st → (M (R st).1 (R st).2).1 = true → rem s (M (R st).1 (R st).2).2 < rem s st)
    (h : PF b s w st) (hc : CI w) :
    Calls Tryz.prog 124 #[.func (.func kR) fi1 ca1, .func (.func kM) fi2 ca2] w fun e w' => ∃ a c T, e = .returned (.slice a (ser s R M st).1.length c) ∧ RowOf ElS 9 w.heap.size w' T (.slice a (ser s R M st).1.length c) (ser s R M st).1 ∧ PF b s w' (ser s R M st).2 ∧ Fb b w w' := by
  obtain ⟨i0, hi0, hz0, hz1, hz2⟩ := info_parts infoSt
  have hi0H := Lib.hid hi0
  have hE1' : ∀ (args : Array Value) (w : World), (callFunc kR args).run Tryz.prog w = .ok (.enter kR args) w := hE1
  have hE2' : ∀ (args : Array Value) (w : World), (callFunc kM args).run Tryz.prog w = .ok (.enter kM args) w := hE2
  have hRH := Lib.hid hR
  have hMH := Lib.hid hM
  have hH := Lib.hid h
  have hcH := Lib.hid hc
  have hCIH := Lib.hid hCI
  have hlt := h.lt
  have hPH := Lib.hid hP
  have hdH := Lib.hid hd
  clear hE1 hE2 hR hM h hc hi0 hCI hP hd
  have hr1 := Lib.hid (hRH.out w st hcH.out hH.out)
  obtain ⟨x, hx⟩ : ∃ x, (R st).1 = x := ⟨_, rfl⟩
  rw [hx] at hr1
  go_enter Tryz.func124, Tryz.ntmps124
  go_upto_region 2 with (go_at_fn kR; refine hr1.out.mono ?_; rintro e w1 ⟨rfl, hA1, hF1⟩; have hA1H := Lib.hid hA1; have hF1H := Lib.hid hF1; clear hA1 hF1)
  go_wp2_with fail
  go_loopg [5, 6] (rem s st) (fun g u v wr => ∃ (st0 : PS) (x : ByteArray) (T : Nat → Prop) (xs : List ByteArray), g = rem s st0 ∧ u = .string x ∧ Hid (StI b s w st R M CI st0 x T v xs wr))
  case atStart =>
    obtain ⟨q5, hq5⟩ : ∃ q, w1.heap.size = q := ⟨_, rfl⟩
    have hb2 : Below w1.heap.size w1 (w1.alloc (.cells #[.string x] 9)) := (Below.refl _ _).alloc (Nat.le_refl _) _
    have hB2 : Blk (w1.alloc (.cells #[.string x] 9)) q5 9 #[.string x] := by rw [← hq5]; exact Blk.new _ _ _
    have hbb := hF1H.out.trans (Fb.of_below hb2)
    have hw1s := hF1H.out.size
    refine ⟨st, x, fun _ => False, [x], rfl, rfl, Lib.hid ⟨hA1H.out.below hb2, hH.out.ok, hCIH.out _ _ hcH.out hbb, hbb, by rw [hq5]; exact RowOf.one_ hB2 (by omega) (show ElS.at_ _ _ [.string x] x from rfl) (fun g h => h.elim), ?_, ?_, hx.symm⟩⟩
    · rw [ser_is R M hPH.out hdH.out hH.out.ok, hx]
      rfl
    · have := rem_bd hH.out.ok
      show 1 + rem s st ≤ 140001
      omega
  case round =>
    clear hx hr1 hA1H hF1H
    obtain ⟨st0, y, T, xs, hg, rfl, hI⟩ := hrel
    have hm := Lib.hid (hMH.out wr (R st0).2 y hI.out.ci hI.out.pf)
    have hser := Lib.hid hI.out.ser
    have hxe := Lib.hid hI.out.xe
    obtain ⟨K, hrow, hat⟩ := hI.out.row.row
    obtain ⟨a, c, rfl⟩ := ownsRow_slice hrow
    obtain ⟨mb, hmb⟩ : ∃ v, (M y (R st0).2).1 = v := ⟨_, rfl⟩
    rw [hmb] at hm
    have hln := hI.out.ln
    obtain ⟨n, hn⟩ : ∃ n, xs.length = n := ⟨_, rfl⟩
    have hnH := Lib.hid hn
    rw [hn] at hln ⊢
    clear hrow hat hn
    cases mb
    · have hs2 := Lib.hid (show ser s R M st = (xs, (M y (R st0).2).2) by
        rw [hser.out]
        unfold serM
        rw [hmb]
        simp)
      clear hmb
      go_wp2_with (go_at_fn kM; refine hm.out.mono ?_; rintro e w2 ⟨rfl, hA2, hF2⟩; have hA2H := Lib.hid hA2; have hF2H := Lib.hid hF2; clear hA2 hF2)
      go_ret
      have hdn := hI.out.row.keep hF2H.out (by exact hlt)
      rw [hs2.out]
      rw [hnH.out] at hdn ⊢
      exact ⟨a, c, _, rfl, hdn, hA2H.out, hI.out.fb.trans hF2H.out⟩
    · have hd2 := hdH.out st0 hI.out.ok0 (by rw [← hxe.out]; exact hmb)
      have hp2 := hPH.out st0 hI.out.ok0
      rw [← hxe.out] at hd2 hp2
      have hse2 := Lib.hid (show serM (s := s) R M y (R st0).2 = ser s R M (M y (R st0).2).2 by unfold serM; rw [hmb]; rfl)
      obtain ⟨st2, hst2⟩ : ∃ v, (M y (R st0).2).2 = v := ⟨_, rfl⟩
      rw [hst2] at hm hd2 hp2 hse2
      have hser2 := ser_is R M hPH.out hdH.out hp2
      have hr2 := Lib.hid (fun W hc hp => hRH.out W st2 hc hp)
      obtain ⟨z, hz⟩ : ∃ z, (R st2).1 = z := ⟨_, rfl⟩
      rw [hz] at hr2 hser2
      have hser2H := Lib.hid hser2
      clear hmb hst2 hser2
      have hd2H := Lib.hid hd2
      have hp2H := Lib.hid hp2
      have hzH := Lib.hid hz
      clear hd2 hp2 hz
      go_upto_region 4 with (go_at_fn kM; refine hm.out.mono ?_; rintro e w2 ⟨rfl, hA2, hF2⟩; have hA2H := Lib.hid hA2; have hF2H := Lib.hid hF2; clear hA2 hF2)
      have hr3 := Lib.hid (hr2.out w2 (hCIH.out _ _ hI.out.ci hF2H.out) hA2H.out)
      go_upto_region 5 with (go_at_fn kR; refine hr3.out.mono ?_; rintro e w3 ⟨rfl, hA3, hF3⟩; have hA3H := Lib.hid hA3; have hF3H := Lib.hid hF3; clear hA3 hF3)
      have hrow4 := hI.out.row.keep (hF2H.out.trans hF3H.out) hlt
      have hfb4 := hI.out.fb.trans (hF2H.out.trans hF3H.out)
      have hb5 : Below w3.heap.size w3 (w3.alloc (.cells #[.string z] 9)) := (Below.refl _ _).alloc (Nat.le_refl _) _
      have hrow5 := hrow4.same hb5.size (fun g hg _ => hb5.block g hg)
      have hfb5 := Lib.hid (hfb4.trans (Fb.of_below hb5))
      have hpf5 := Lib.hid (hA3H.out.below hb5)
      have hsz5 := Lib.hid hfb4.size
      have hrow5H := Lib.hid hrow5
      obtain ⟨K5, hown5, hat5⟩ := hrow5.row
      rw [hnH.out] at hown5
      have hown5H := Lib.hid hown5
      have hat5H := Lib.hid hat5
      clear hrow5 hown5 hat5 hb5 hfb4 hrow4
      go_wp2_with (at_builtin; refine wpList_app rfl _ _ 27 rfl w.heap.size 9 i0 _ 1 16 Tryz.underlying27 hi0H.out hz0 hz1 hz2 rfl (by decide) (.slice a n c) n (flat K5 n) (by rfl) hown5H.out (some ⟨w3.heap.size, 0, none⟩) 1 1 [.string z] (by rfl) (by rfl) (src_blk (Blk.new w3 _ _)) (by intro u hu; simp at hu; rw [hu]; rfl) (by omega) (by omega) (Nat.le_trans hsz5.out (by rw [World.size_alloc]; exact Nat.le_succ _)) ?_; intro a6 c6 w6 hown6 hg6 ho6)
      have hnew := hrow5H.out.app (Tx := fun _ => False) (x := z) (a' := a6) (c' := c6) (m := n + 1) (w' := w6) (cx := [.string z]) ⟨K5, by rw [hnH.out]; exact hown6, hat5H.out⟩ (by rw [hnH.out]) rfl (fun _ _ h => h) (fun g h => h.elim) (by rw [hnH.out]; exact hg6) (by rw [hnH.out]; exact ho6)
      go_roundg (rem s st2)
      case measure => rw [hg]; exact hd2H.out
      case rel =>
        refine ⟨st2, z, _, xs ++ [z], rfl, rfl, Lib.hid ⟨hpf5.out.grown hown5H.out (by decide) hlt hg6, hp2H.out, hCIH.out _ _ hcH.out (hfb5.out.grown hown5H.out (Nat.le_refl _) hg6), hfb5.out.grown hown5H.out (Nat.le_refl _) hg6, hnew, ?_, ?_, hzH.out.symm⟩⟩
        · rw [hser.out, hse2.out, hser2H.out]
          simp
        · have := hd2H.out
          rw [List.length_append, hnH.out]
          show n + 1 + rem s st2 ≤ 140001
          omega
end
end Go.Proofs.YtnhbcmhinhncfaaGreatDoor
/- Patterns of an item. Condition: the parser lies as stated. -/
namespace Go.Proofs.YtnhbcmhinhncfaaGreatDoor
open Go.RowKit Go.Shelf Go.PlainAid
set_option linter.unusedVariables false
set_option linter.unusedSimpArgs false
attribute [local go_sem] Oper.semAt_some
theorem serP_len {X : Type} {R : PS → X × PS} {M : X → PS → Bool × PS} : ∀ (f : Nat) (st : PS), (serP R M f st).1.length ≤ f
  | 0, st => Nat.le_refl _
  | f + 1, st => by
    unfold serP
    split
    · have := serP_len (R := R) (M := M) f (M (R st).1 (R st).2).2
      show (serP R M f (M (R st).1 (R st).2).2).1.length + 1 ≤ _
      omega
    · show 1 ≤ _
      omega
theorem ser_len {s : ByteArray} {X : Type} {R : PS → X × PS} {M : X → PS → Bool × PS} {st : PS} (h : PW s st) : (ser s R M st).1.length ≤ 140001 := by
  have := serP_len (R := R) (M := M) (rem s st + 1) st
  have h2 := rem_bd h
  show (serP R M (rem s st + 1) st).1.length ≤ _
  omega
section
variable {b : Nat} {s : ByteArray} {w : World} {st : PS}
abbrev patR (s : ByteArray) (st : PS) : ByteArray × PS := ((needT s ((peekP s st).kind == 1) st).text, needP s ((peekP s st).kind == 1) st)
set_option maxRecDepth 100000 in
set_option maxHeartbeats 2000000 in
theorem pats1_f {q : Nat} (hb : Bx b q w) (hqb : q ≠ b) (h : PF b s w st) : Calls Tryz.prog 125 #[ptr q] w (An b s w (.string (patR s st).1) (patR s st).2) := by
  have c0 : w.drew.cell? ⟨q, 0, none⟩ = some (ptr b) := hb.cell 0
  have hH := Lib.hid h
  have hbH := Lib.hid hb
  have hpk := Lib.hid (fun W (hp : PF b s W st) => peek_f hp)
  obtain ⟨t, ht⟩ : ∃ t, peekP s st = t := ⟨_, rfl⟩
  have hnd := Lib.hid (fun W (hp : PF b s W st) => need_f hp ((peekP s st).kind == 1))
  have hr := Lib.hid (show patR s st = ((needT s ((peekP s st).kind == 1) st).text, needP s ((peekP s st).kind == 1) st) from rfl)
  rw [ht] at hpk hnd hr
  obtain ⟨m, hm⟩ : ∃ m, (t.kind == 1) = m := ⟨_, rfl⟩
  rw [hm] at hnd hr
  obtain ⟨u, hu⟩ : ∃ u, needT s m st = u := ⟨_, rfl⟩
  rw [hu] at hnd hr
  have f0 := fld0 t
  have f1 := fld1 u
  have hb0 : Below w.heap.size w w.drew := below_drew (Below.refl _ _) 1
  have hA0 := Lib.hid (h.below hb0)
  clear h hb ht hu
  go_enter Tryz.func125, Tryz.ntmps125
  go_upto_region 1 with fail
  go_region_held3 (fun Z => Z.cell? ⟨q, 0, none⟩ = some (ptr b)) (first | with_reducible exact c0 | with_reducible exact d0 | with_reducible exact e0 | fail)
    ((first
      | (go_at_call 22; refine (hnd.out _ hA1H.out).mono ?_; rintro e w2 ⟨rfl, hA2, hF2⟩; have hA2H := Lib.hid hA2; have hF2H := Lib.hid hF2; have hB2 := Lib.hid (hF2.blk hB1.out hqb); have e0 : w2.cell? ⟨q, 0, none⟩ = some (ptr b) := hB2.out.cell 0; clear hA2 hF2; dsimp only [tkV])
      | (go_at_call 20; refine (hpk.out _ hA0.out).mono ?_; rintro e w1 ⟨rfl, hA1, hF1⟩; have hA1H := Lib.hid hA1; have hF1H := Lib.hid hF1; have hB1 := Lib.hid (hF1.blk (show Bx b q w.drew from hbH.out) hqb); have d0 : w1.cell? ⟨q, 0, none⟩ = some (ptr b) := hB1.out.cell 0; clear hA1 hF1; dsimp only [tkV])
      | fail))
  go_wp2_with fail
  go_ret
  have hr2 := hr.out
  injection hr2 with e1 e2
  rw [e1, e2]
  exact ⟨rfl, hA2H.out, ((Fb.of_below (b := b) (below_drew (Below.refl w.heap.size w) 1)).trans hF1H.out).trans hF2H.out⟩
set_option maxRecDepth 100000 in
set_option maxHeartbeats 2000000 in
theorem pats2_f {q : Nat} (x : ByteArray) (hb : Bx b q w) (hqb : q ≠ b) (h : PF b s w st) : Calls Tryz.prog 126 #[.string x, ptr q] w (An b s w (.bool (hasO s [124] st)) (tookP s 2 [124] st)) := by
  have c0 : w.cell? ⟨q, 0, none⟩ = some (ptr b) := hb.cell 0
  have ht := took_f h ⟨#[124]⟩
  rw [show (⟨#[124]⟩ : ByteArray).toList = [124] by kernel_rfl] at ht
  have hr := Lib.hid ht
  have hok := Lib.hid h.ok
  obtain ⟨o, ho⟩ : ∃ o, hasO s [124] st = o := ⟨_, rfl⟩
  rw [ho] at hr ⊢
  have hoH := Lib.hid ho
  clear h hb ht ho
  go_enter Tryz.func126, Tryz.ntmps126
  go_wp2_with (go_at_call 45; refine hr.out.mono ?_; rintro e w2 ⟨rfl, hA2, hF2⟩; have hA2H := Lib.hid hA2; have hF2H := Lib.hid hF2; clear hA2 hF2)
  go_ret
  refine ⟨rfl, ?_, hF2H.out⟩
  have h2 := hA2H.out
  unfold tookP
  rw [show isT 2 [124] (peekP s st) = o from hoH.out]
  cases o
  · exact PF.fill h2
  · exact h2
theorem enters_p1 : Enters Tryz.prog 125 := enters_of Tryz.func125 (by kernel_rfl) rfl
theorem enters_p2 : Enters Tryz.prog 126 := enters_of Tryz.func126 (by kernel_rfl) rfl
set_option maxRecDepth 100000 in
set_option maxHeartbeats 4000000 in
theorem patterns_f (h : PF b s w st) : Calls Tryz.prog 120 #[ptr b] w (RowAn ElS 9 b s w (patsP s st).1 (patsP s st).2) := by
  have hmf : ∀ (fn : Fn) (first cap : Array Value) (w : World), (Instr.makeFunc fn first cap).run Tryz.prog w = .ok (.func fn first cap) w := fun _ _ _ _ => rfl
  obtain ⟨i0, hi0, hz0, hz1, hz2⟩ := info_parts infoSt
  have hi0H := Lib.hid hi0
  clear hi0
  obtain ⟨q, hq⟩ : ∃ q, w.heap.size = q := ⟨_, rfl⟩
  have hlt := h.lt
  have hqb : q ≠ b := by omega
  have hb1 : Below w.heap.size w (w.alloc (.cells #[ptr b] 53)) := (Below.refl _ _).alloc (Nat.le_refl _) _
  have hB := Lib.hid (show Bx b q (w.alloc (.cells #[ptr b] 53)) by rw [← hq]; exact Blk.new _ _ _)
  have hA1 := Lib.hid (h.below hb1)
  have hF1 := Lib.hid (Fb.of_below (b := b) hb1)
  have hs1 := Lib.hid hb1.size
  have hs1' : (w.alloc (.cells #[ptr b] 53)).heap.size = q + 1 := by rw [World.size_alloc, hq]
  obtain ⟨W, hW⟩ : ∃ W, w.alloc (.cells #[ptr b] 53) = W := ⟨_, rfl⟩
  rw [hW] at hB hA1 hF1 hs1 hs1'
  have hs1H := Lib.hid hs1'
  have hWH := Lib.hid hW
  have c0 : W.cell? ⟨q, 0, none⟩ = some (ptr b) := hB.out.cell 0
  have ht := took_f hA1.out ⟨#[40]⟩
  rw [show (⟨#[40]⟩ : ByteArray).toList = [40] by kernel_rfl] at ht
  have hr := Lib.hid ht
  have hqH := Lib.hid hq
  have hok := Lib.hid h.ok
  clear hW hb1 h hq ht hs1'
  have hPF : Hid (∀ W2, PF b s W2 (if hasO s [40] st then nextP s st else st) → PF b s W2 (tookP s 2 [40] st)) := Lib.hid (fun W2 h2 => by
    unfold tookP
    unfold hasO at h2
    cases ho : isT 2 [40] (peekP s st)
    · rw [ho] at h2; exact PF.fill h2
    · rw [ho] at h2; exact h2)
  have hser := Lib.hid (fun (W2 : World) (h1 : Bx b q W2) (h2 : PF b s W2 (tookP s 2 [40] st)) => serS_any (R := patR s) (M := fun _ st => (hasO s [124] st, tookP s 2 [124] st)) 125 126 #[] #[ptr q] #[] #[ptr q] enters_p1 enters_p2 (Bx b q) (fun W W' hc hf => hf.blk hc hqb) (fun W st hc hp => pats1_f hc hqb hp) (fun W st x hc hp => pats2_f x hc hqb hp) (fun st hp => (pat_more hp _).ok) (fun st hp hm => pat_less hp _ hm) h2 h1)
  have hlen := Lib.hid (ser_len (R := patR s) (M := fun _ st => (hasO s [124] st, tookP s 2 [124] st)) (lo_took hok.out 2 [40]).ok)
  have he := Lib.hid (show patsP s st = ((ser s (patR s) (fun _ st => (hasO s [124] st, tookP s 2 [124] st)) (tookP s 2 [40] st)).1 ++ [⟨#[41]⟩], needP s (hasO s [41] (ser s (patR s) (fun _ st => (hasO s [124] st, tookP s 2 [124] st)) (tookP s 2 [40] st)).2) (ser s (patR s) (fun _ st => (hasO s [124] st, tookP s 2 [124] st)) (tookP s 2 [40] st)).2) from rfl)
  obtain ⟨A, hA⟩ : ∃ A, ser s (patR s) (fun _ st => (hasO s [124] st, tookP s 2 [124] st)) (tookP s 2 [40] st) = A := ⟨_, rfl⟩
  rw [hA] at hser he hlen
  clear hA
  obtain ⟨l, stl⟩ := A
  rw [he.out]
  go_enter Tryz.func120, Tryz.ntmps120
  go_upto_region 1 with fail
  rw [hWH.out, hqH.out]
  go_upto_region 2 with (go_at_call 45; refine hr.out.mono ?_; rintro e w2 ⟨rfl, hA2, hF2⟩; have hA2H := Lib.hid hA2; have hF2H := Lib.hid hF2; have hB2 := Lib.hid (hF2.blk hB.out hqb); have d0 : w2.cell? ⟨q, 0, none⟩ = some (ptr b) := hB2.out.cell 0; clear hA2 hF2)
  have hcall := Lib.hid (hser.out _ hB2.out (hPF.out _ hA2H.out))
  clear hser hPF
  go_upto_region 3 with (go_at_call 124; refine hcall.out.mono ?_; rintro e w3 ⟨a3, c3, T3, rfl, hD3, hA3, hF3⟩; have hD3H := Lib.hid hD3; have hA3H := Lib.hid hA3; have hF3H := Lib.hid hF3; have hB3 := Lib.hid (hF3.blk hB2.out hqb); clear hD3 hA3 hF3)
  have e0 : w3.drew.cell? ⟨q, 0, none⟩ = some (ptr b) := hB3.out.cell 0
  have ho41 := Lib.hid (fun W (hp : PF b s W stl) => isOp_f hp ⟨#[41]⟩)
  rw [show (⟨#[41]⟩ : ByteArray).toList = [41] by kernel_rfl] at ho41
  obtain ⟨o, ho⟩ : ∃ o, hasO s [41] stl = o := ⟨_, rfl⟩
  rw [ho] at ho41
  rw [ho]
  have hnd := Lib.hid (fun W (hp : PF b s W stl) => need_f hp o)
  have hA3d := Lib.hid (show PF b s w3.drew stl from hA3H.out.below (below_drew (Below.refl _ _) 1))
  have hB3d := Lib.hid (show Bx b q w3.drew from hB3.out)
  have hF3d := Lib.hid (show Fb b w2 w3.drew from hF3H.out.drewN 1)
  have hoH := Lib.hid ho
  clear ho
  go_region_held3 (fun Z => Z.cell? ⟨q, 0, none⟩ = some (ptr b)) (first | with_reducible exact e0 | with_reducible exact e4 | with_reducible exact e5 | fail)
    ((first
      | (go_at_call 22; refine (hnd.out _ hA4H.out).mono ?_; rintro e w5 ⟨rfl, hA5, hF5⟩; have hA5H := Lib.hid hA5; have hF5H := Lib.hid hF5; have hB5 := Lib.hid (hF5.blk hB4.out hqb); have e5 : w5.cell? ⟨q, 0, none⟩ = some (ptr b) := hB5.out.cell 0; clear hA5 hF5; dsimp only [tkV])
      | (go_at_call 61; refine (ho41.out _ hA3d.out).mono ?_; rintro e w4 ⟨rfl, hA4, hF4⟩; have hA4H := Lib.hid hA4; have hF4H := Lib.hid hF4; have hB4 := Lib.hid (hF4.blk hB3d.out hqb); have e4 : w4.cell? ⟨q, 0, none⟩ = some (ptr b) := hB4.out.cell 0; clear hA4 hF4)
      | fail))
  have hFw := Lib.hid ((hF1.out.trans hF2H.out).trans hF3d.out)
  have hrow3 := hD3H.out.keep (w' := w5) ((Fb.refl b w3).drewN 1 |>.trans (hF4H.out.trans hF5H.out)) (by have := hF2H.out.size; have := hs1H.out; have := hlt; have := hqH.out; omega)
  have hfb5 := hFw.out.trans (hF4H.out.trans hF5H.out)
  have hw2n : w.heap.size ≤ w2.heap.size := (hF1.out.trans hF2H.out).size
  have hb6 : Below w5.heap.size w5 (w5.alloc (.cells #[.string ⟨#[41]⟩] 9)) := (Below.refl _ _).alloc (Nat.le_refl _) _
  have hrow6 := hrow3.same hb6.size (fun g hg _ => hb6.block g hg)
  have hfb6 := Lib.hid (hfb5.trans (Fb.of_below hb6))
  have hpf6 := Lib.hid (hA5H.out.below hb6)
  have hsz6 := Lib.hid ((hF3d.out.trans (hF4H.out.trans hF5H.out)).size)
  have hw2nH := Lib.hid hw2n
  have hrow6H := Lib.hid hrow6
  obtain ⟨K6, hown6, hat6⟩ := hrow6.row
  have hown6H := Lib.hid hown6
  have hat6H := Lib.hid hat6
  obtain ⟨n, hn⟩ : ∃ n, l.length = n := ⟨_, rfl⟩
  have hl9 : n ≤ 140001 := by rw [← hn]; exact hlen.out
  have hnH := Lib.hid hn
  have hltw2 : b < w2.heap.size := Nat.lt_of_lt_of_le hlt hw2n
  rw [hn] at hown6H ⊢
  clear hrow6 hown6 hat6 hb6 hfb5 hrow3 hn hw2n e0 e4 e5
  go_wp2_with (at_builtin; refine wpList_app rfl _ _ 27 rfl w2.heap.size 9 i0 _ 1 16 Tryz.underlying27 hi0H.out hz0 hz1 hz2 rfl (by decide) (.slice a3 n c3) n (flat K6 n) (by rfl) hown6H.out (some ⟨w5.heap.size, 0, none⟩) 1 1 [.string ⟨#[41]⟩] (by rfl) (by rfl) (src_blk (Blk.new w5 _ _)) (by intro u hu; simp at hu; rw [hu]; rfl) (by omega) (by omega) (Nat.le_trans hsz6.out (by rw [World.size_alloc]; exact Nat.le_succ _)) ?_; intro a7 c7 w7 hown7 hg7 ho7)
  have hnew := hrow6H.out.app (Tx := fun _ => False) (x := (⟨#[41]⟩ : ByteArray)) (a' := a7) (c' := c7) (m := n + 1) (w' := w7) (cx := [.string ⟨#[41]⟩]) ⟨K6, by rw [hnH.out]; exact hown7, hat6H.out⟩ (by rw [hnH.out]) rfl (fun _ _ h => h) (fun g h => h.elim) (by rw [hnH.out]; exact hg7) (by rw [hnH.out]; exact ho7)
  go_ret
  obtain ⟨hdn, hge⟩ := hnew.done
  have hll : (l ++ [(⟨#[41]⟩ : ByteArray)]).length = n + 1 := by rw [List.length_append, hnH.out]; rfl
  unfold RowAn
  rw [hll, hoH.out]
  exact ⟨a7, c7, _, rfl, hdn, fun g hg => ⟨Nat.le_trans hw2nH.out (hge g hg).1, (hge g hg).2⟩, hpf6.out.grown hown6H.out (by decide) hltw2 hg7, hfb6.out.grown hown6H.out hw2nH.out hg7⟩
end
end Go.Proofs.YtnhbcmhinhncfaaGreatDoor
/- A tree as an answer; the group of a loop. Conditions: the parser lies as stated; a body's contract is handed in. -/
namespace Go.Proofs.YtnhbcmhinhncfaaGreatDoor
open Go.RowKit Go.Shelf Go.PlainAid
set_option linter.unusedVariables false
set_option linter.unusedSimpArgs false
attribute [local go_sem] Oper.semAt_some
abbrev N7 : Array Value := #[.int .i64 0, .bool false, .bool false, .string ⟨#[]⟩, .slice none 0 0, .slice none 0 0, .slice none 0 0]
def put7 (w : World) (q : Nat) (a1 a2 a3 a4 a5 a6 a7 : Value) : World := ((((((w.setCell ⟨q, 0, none⟩ a1).setCell ⟨q, 1, none⟩ a2).setCell ⟨q, 2, none⟩ a3).setCell ⟨q, 3, none⟩ a4).setCell ⟨q, 4, none⟩ a5).setCell ⟨q, 5, none⟩ a6).setCell ⟨q, 6, none⟩ a7
theorem put7_blk {W : World} {q : Nat} {T : TypeId} {v1 v2 v3 v4 v5 v6 v7 : Value} (hB : Blk W q T #[v1, v2, v3, v4, v5, v6, v7]) (a1 a2 a3 a4 a5 a6 a7 : Value) : Blk (put7 W q a1 a2 a3 a4 a5 a6 a7) q T #[a1, a2, a3, a4, a5, a6, a7] := by
  have h1 : Blk _ q T #[a1, v2, v3, v4, v5, v6, v7] := hB.set_ 0 a1
  have h2 : Blk _ q T #[a1, a2, v3, v4, v5, v6, v7] := h1.set_ 1 a2
  have h3 : Blk _ q T #[a1, a2, a3, v4, v5, v6, v7] := h2.set_ 2 a3
  have h4 : Blk _ q T #[a1, a2, a3, a4, v5, v6, v7] := h3.set_ 3 a4
  have h5 : Blk _ q T #[a1, a2, a3, a4, a5, v6, v7] := h4.set_ 4 a5
  have h6 : Blk _ q T #[a1, a2, a3, a4, a5, a6, v7] := h5.set_ 5 a6
  exact h6.set_ 6 a7
theorem put7_far (W : World) (q : Nat) (a1 a2 a3 a4 a5 a6 a7 : Value) {g : Nat} (h : g ≠ q) : (put7 W q a1 a2 a3 a4 a5 a6 a7).heap[g]? = W.heap[g]? := by
  unfold put7
  rw [Below.heap_setCell _ _ _ _ h, Below.heap_setCell _ _ _ _ h, Below.heap_setCell _ _ _ _ h, Below.heap_setCell _ _ _ _ h, Below.heap_setCell _ _ _ _ h, Below.heap_setCell _ _ _ _ h, Below.heap_setCell _ _ _ _ h]
theorem put7_size (W : World) (q : Nat) (a1 a2 a3 a4 a5 a6 a7 : Value) : (put7 W q a1 a2 a3 a4 a5 a6 a7).heap.size = W.heap.size := by unfold put7; simp
theorem put7_fb {b : Nat} {w W : World} {q : Nat} (h : Fb b w W) (hq : w.heap.size ≤ q) (a1 a2 a3 a4 a5 a6 a7 : Value) : Fb b w (put7 W q a1 a2 a3 a4 a5 a6 a7) := ((((((h.new_ hq _ _).new_ hq _ _).new_ hq _ _).new_ hq _ _).new_ hq _ _).new_ hq _ _).new_ hq _ _
section
variable {b : Nat} {s : ByteArray} {w : World} {st : PS}
/-- Another block is written. -/
theorem PF.other {q : Nat} {T : TypeId} {cs : Array Value} {W W' : World} (h : PF b s W st) (hB : Blk W q T cs) (hT : T ≠ 58) (hqb : q ≠ b) (h16 : 8 ≤ q) (hs : W.heap.size ≤ W'.heap.size) (hk : ∀ g, g ≠ q → W'.heap[g]? = W.heap[g]?) : PF b s W' st := by
  refine h.turned hs (fun g _ hc => hk g (fun e => ?_))
  rcases hc with rfl | hc | ⟨cs2, hB2⟩
  · exact hqb e.symm
  · omega
  · subst e
    have h3 : some (Obj.cells cs T (0, 0)) = some (Obj.cells cs2 58 (0, 0)) := hB.symm.trans hB2
    simp at h3
    exact hT h3.2
theorem PF.put7 {q : Nat} {T : TypeId} {cs : Array Value} {W : World} (h : PF b s W st) (hB : Blk W q T cs) (hT : T ≠ 58) (hqb : q ≠ b) (h16 : 8 ≤ q) (a1 a2 a3 a4 a5 a6 a7 : Value) : PF b s (put7 W q a1 a2 a3 a4 a5 a6 a7) st :=
  h.other hB hT hqb h16 (Nat.le_of_eq (put7_size _ _ _ _ _ _ _ _ _).symm) (fun g hg => put7_far _ _ _ _ _ _ _ _ _ hg)
/-- What answers a tree. -/
def NdAn (b : Nat) (s : ByteArray) (w : World) (n : Nd) (st : PS) (e : Ending) (w' : World) : Prop :=
  ∃ (k : Int) (x y : Bool) (nm : ByteArray) (aw : Option Addr) (nw cw : Nat) (ar : Option Addr) (nr cr : Nat) (ak : Option Addr) (nk ck : Nat) (T : Nat → Prop), e = .returned (.agg #[.int .i64 k, .bool x, .bool y, .string nm, .slice aw nw cw, .slice ar nr cr, .slice ak nk ck]) ∧
    NdAt w' T [.int .i64 k, .bool x, .bool y, .string nm, .slice aw nw cw, .slice ar nr cr, .slice ak nk ck] n ∧ (∀ g, T g → w.heap.size ≤ g ∧ g < w'.heap.size) ∧ PF b s w' st ∧ Fb b w w'
/-- A tree stands in a block of one's own. -/
structure Hd (b : Nat) (w : World) (n : Nd) (k : Int) (x y : Bool) (nm : ByteArray) (aw : Option Addr) (nw cw : Nat) (ar : Option Addr) (nr cr : Nat) (ak : Option Addr) (nk ck : Nat) (T : Nat → Prop) (W : World) : Prop where
  at_ : NdAt W T [.int .i64 k, .bool x, .bool y, .string nm, .slice aw nw cw, .slice ar nr cr, .slice ak nk ck] n
  ge : ∀ g, T g → w.heap.size ≤ g ∧ g < W.heap.size
section
variable {n : Nd} {k : Int} {x y : Bool} {nm : ByteArray} {aw : Option Addr} {nw cw : Nat} {ar : Option Addr} {nr cr : Nat} {ak : Option Addr} {nk ck : Nat} {T : Nat → Prop} {W W' : World}
theorem Hd.keep (h : Hd b w n k x y nm aw nw cw ar nr cr ak nk ck T W) (hf : Fb b W W') (hb : b < w.heap.size) : Hd b w n k x y nm aw nw cw ar nr cr ak nk ck T W' :=
  ⟨h.at_.keep (fun g hg => hf.block g (h.ge g hg).2 (by have := (h.ge g hg).1; omega)) (fun _ h => h), fun g hg => ⟨(h.ge g hg).1, Nat.lt_of_lt_of_le (h.ge g hg).2 hf.size⟩⟩
theorem Hd.put7 {q : Nat} (h : Hd b w n k x y nm aw nw cw ar nr cr ak nk ck T W) (hq : ¬ T q) (a1 a2 a3 a4 a5 a6 a7 : Value) : Hd b w n k x y nm aw nw cw ar nr cr ak nk ck T (put7 W q a1 a2 a3 a4 a5 a6 a7) :=
  ⟨h.at_.keep (fun g hg => put7_far _ _ _ _ _ _ _ _ _ (fun e => hq (e ▸ hg))) (fun _ h => h), fun g hg => ⟨(h.ge g hg).1, by rw [put7_size]; exact (h.ge g hg).2⟩⟩
/-- The result is stored: the answer. -/
theorem Hd.an {q : Nat} (h : Hd b w n k x y nm aw nw cw ar nr cr ak nk ck T W) (hB : Blk W q 30 N7) (hq : ¬ T q) (hqw : w.heap.size ≤ q) (hqb : q ≠ b) (h16 : 8 ≤ q) (hp : PF b s W st) (hf : Fb b w W) :
    NdAn b s w n st (.returned (.agg #[.int .i64 k, .bool x, .bool y, .string nm, .slice aw nw cw, .slice ar nr cr, .slice ak nk ck])) (Go.Proofs.YtnhbcmhinhncfaaGreatDoor.put7 W q (.int .i64 k) (.bool x) (.bool y) (.string nm) (.slice aw nw cw) (.slice ar nr cr) (.slice ak nk ck)) := by
  have h2 := h.put7 hq (.int .i64 k) (.bool x) (.bool y) (.string nm) (.slice aw nw cw) (.slice ar nr cr) (.slice ak nk ck)
  exact ⟨k, x, y, nm, aw, nw, cw, ar, nr, cr, ak, nk, ck, T, rfl, h2.at_, h2.ge, hp.put7 hB (by decide) hqb h16 _ _ _ _ _ _ _, put7_fb hf hqw _ _ _ _ _ _ _⟩
end
/-- A body's contract at a depth. -/
def BodyC (s : ByteArray) (B : Int → PS → Nd × PS) (d : Int) : Prop := ∀ (b : Nat) (W : World) (st : PS), PF b s W st → Calls Tryz.prog 98 #[ptr b, .int .i64 d] W (NdAn b s W (B d st).1 (B d st).2)
variable {B : Int → PS → Nd × PS} {d : Int}
set_option maxRecDepth 100000 in
set_option maxHeartbeats 4000000 in
theorem doGroup_f (hC : BodyC s B d) (h : PF b s w st) : Calls Tryz.prog 119 #[ptr b, .int .i64 d] w (NdAn b s w (doG s B d st).1 (doG s B d st).2) := by
  obtain ⟨q, hq⟩ : ∃ q, w.heap.size = q := ⟨_, rfl⟩
  have hlt := h.lt
  have h16 := h.b16
  have hqb : q ≠ b := by omega
  have hq16 : 8 ≤ q := by omega
  have hb1 : Below w.heap.size w (w.alloc (.cells N7 30)) := (Below.refl _ _).alloc (Nat.le_refl _) _
  have hZ := Lib.hid (show Blk (w.alloc (.cells N7 30)) q 30 N7 by rw [← hq]; exact Blk.new _ _ _)
  have hA1 := Lib.hid (h.below hb1)
  have hF1 := Lib.hid (Fb.of_below (b := b) hb1)
  obtain ⟨W, hW⟩ : ∃ W, w.alloc (.cells N7 30) = W := ⟨_, rfl⟩
  rw [hW] at hZ hA1 hF1
  have hWH := Lib.hid hW
  have hqH := Lib.hid hq
  have hn1 := needWord_f hA1.out ⟨#[100, 111]⟩
  rw [show (⟨#[100, 111]⟩ : ByteArray).toList = [100, 111] by kernel_rfl] at hn1
  have hn1H := Lib.hid hn1
  have hr := Lib.hid (show doG s B d st = ((B d (needP s (hasW s [100, 111] st) st)).1, needP s (hasW s [100, 111, 110, 101] (B d (needP s (hasW s [100, 111] st) st)).2) (B d (needP s (hasW s [100, 111] st) st)).2) from rfl)
  obtain ⟨st1, hst1⟩ : ∃ x, needP s (hasW s [100, 111] st) st = x := ⟨_, rfl⟩
  rw [hst1] at hn1H hr
  have hc := Lib.hid (fun W hp => hC b W st1 hp)
  obtain ⟨A, hA⟩ : ∃ A, B d st1 = A := ⟨_, rfl⟩
  rw [hA] at hc hr
  obtain ⟨n, st2⟩ := A
  rw [hr.out]
  have hd2 := Lib.hid (fun W (hp : PF b s W st2) => needWord_f hp ⟨#[100, 111, 110, 101]⟩)
  rw [show (⟨#[100, 111, 110, 101]⟩ : ByteArray).toList = [100, 111, 110, 101] by kernel_rfl] at hd2
  obtain ⟨st3, hst3⟩ : ∃ x, needP s (hasW s [100, 111, 110, 101] st2) st2 = x := ⟨_, rfl⟩
  rw [hst3] at hd2
  have hst3H := Lib.hid hst3
  clear hW hb1 h hq hn1 hst1 hA hC hst3
  go_enter Tryz.func119, Tryz.ntmps119
  go_upto_region 1 with fail
  rw [hWH.out, hqH.out]
  go_upto_region 2 with (go_at_call 101; refine hn1H.out.mono ?_; rintro e w2 ⟨rfl, hA2, hF2⟩; have hA2H := Lib.hid hA2; have hF2H := Lib.hid (hF1.out.trans hF2); have hZ2 := Lib.hid (hF2.blk hZ.out hqb); clear hA2 hF2)
  go_upto_region 3 with (go_at_call 98; refine (hc.out _ hA2H.out).mono ?_; rintro e w3 ⟨k, x, y, nm, aw, nw, cw, ar, nr, cr, ak, nk, ck, T, rfl, hN, hT, hA3, hF3⟩; have hN3 := Lib.hid hN; have hT3 := Lib.hid hT; have hA3H := Lib.hid hA3; have hF3H := Lib.hid hF3; clear hN hT hA3 hF3)
  obtain ⟨qn, hqn⟩ : ∃ q, w3.heap.size = q := ⟨_, rfl⟩
  obtain ⟨W4, hW4⟩ : ∃ W, w3.alloc (.cells #[.int .i64 k, .bool x, .bool y, .string nm, .slice aw nw cw, .slice ar nr cr, .slice ak nk ck] 30) = W := ⟨_, rfl⟩
  have hb4 : Below w3.heap.size w3 W4 := by rw [← hW4]; exact (Below.refl _ _).alloc (Nat.le_refl _) _
  have hBn : Blk W4 qn 30 #[.int .i64 k, .bool x, .bool y, .string nm, .slice aw nw cw, .slice ar nr cr, .slice ak nk ck] := by rw [← hW4, ← hqn]; exact Blk.new _ _ _
  rw [hW4, hqn]
  have hFw := hF2H.out.trans hF3H.out
  have hHd : Hd b w n k x y nm aw nw cw ar nr cr ak nk ck T w3 := ⟨hN3.out, fun g hg => ⟨Nat.le_trans hF2H.out.size (hT3.out g hg).1, (hT3.out g hg).2⟩⟩
  have hTq : Hid (¬ T q) := Lib.hid (fun e => by have := (hT3.out q e).1; have := hZ2.out.lt; omega)
  have hA4 := Lib.hid (hA3H.out.below hb4)
  have hF4 := Lib.hid (hFw.trans (Fb.of_below hb4))
  have hHd4 := Lib.hid (hHd.keep (Fb.of_below hb4) hlt)
  have hZ4 := Lib.hid ((Fb.of_below (b := b) hb4).blk (hF3H.out.blk hZ2.out hqb) hqb)
  have hqnb : qn ≠ b := by have := hF2H.out.size; have := hF3H.out.size; omega
  have hqnq : ¬ qn = q := by have := (hF3H.out.blk hZ2.out hqb).lt; omega
  have hBnH := Lib.hid hBn
  clear hb4 hW4 hFw hHd hBn hqn
  go_upto_region 4 with (go_at_call 101; refine (hd2.out _ hA4.out).mono ?_; rintro e w5 ⟨rfl, hA5, hF5⟩; have hA5H := Lib.hid hA5; have hF5H := Lib.hid (hF4.out.trans hF5); have hHd5 := Lib.hid (hHd4.out.keep hF5 hlt); have hZ5 := Lib.hid (hF5.blk hZ4.out hqb); have hBn5 := Lib.hid (hF5.blk hBnH.out hqnb); clear hA5 hF5)
  have c0 : w5.cell? ⟨qn, 0, none⟩ = some (.int .i64 k) := hBn5.out.cell 0
  have c1 : w5.cell? ⟨qn, 1, none⟩ = some (.bool x) := hBn5.out.cell 1
  have c2 : w5.cell? ⟨qn, 2, none⟩ = some (.bool y) := hBn5.out.cell 2
  have c3 : w5.cell? ⟨qn, 3, none⟩ = some (.string nm) := hBn5.out.cell 3
  have c4 : w5.cell? ⟨qn, 4, none⟩ = some (.slice aw nw cw) := hBn5.out.cell 4
  have c5 : w5.cell? ⟨qn, 5, none⟩ = some (.slice ar nr cr) := hBn5.out.cell 5
  have c6 : w5.cell? ⟨qn, 6, none⟩ = some (.slice ak nk ck) := hBn5.out.cell 6
  have z0 : w5.cell? ⟨q, 0, none⟩ = some (.int .i64 0) := hZ5.out.cell 0
  have z1 : w5.cell? ⟨q, 1, none⟩ = some (.bool false) := hZ5.out.cell 1
  have z2 : w5.cell? ⟨q, 2, none⟩ = some (.bool false) := hZ5.out.cell 2
  have z3 : w5.cell? ⟨q, 3, none⟩ = some (.string ⟨#[]⟩) := hZ5.out.cell 3
  have z4 : w5.cell? ⟨q, 4, none⟩ = some (.slice none 0 0) := hZ5.out.cell 4
  have z5 : w5.cell? ⟨q, 5, none⟩ = some (.slice none 0 0) := hZ5.out.cell 5
  have z6 : w5.cell? ⟨q, 6, none⟩ = some (.slice none 0 0) := hZ5.out.cell 6
  have g0 := hZ5.out.frozen 0
  have g1 := hZ5.out.frozen 1
  have g2 := hZ5.out.frozen 2
  have g3 := hZ5.out.frozen 3
  have g4 := hZ5.out.frozen 4
  have g5 := hZ5.out.frozen 5
  have g6 := hZ5.out.frozen 6
  go_wp2_with fail
  refine bodyPost_ret (results_cell_row rfl _ _ q 30 #[.int .i64 k, .bool x, .bool y, .string nm, .slice aw nw cw, .slice ar nr cr, .slice ak nk ck] (0, 0) _ rfl (put7_blk hZ5.out _ _ _ _ _ _ _) Tryz.underlying30 rfl (by kernel_rfl)) rfl ?_
  rw [hst3H.out]
  exact hHd5.out.an hZ5.out hTq.out (Nat.le_of_eq hqH.out) hqb hq16 hA5H.out hF5H.out
end
end Go.Proofs.YtnhbcmhinhncfaaGreatDoor
/- What stands in an item. Conditions: the parser lies as stated; a body's contract is handed in. -/
namespace Go.Proofs.YtnhbcmhinhncfaaGreatDoor
open Go.RowKit Go.Shelf Go.PlainAid
set_option linter.unusedVariables false
set_option linter.unusedSimpArgs false
attribute [local go_sem] Oper.semAt_some
theorem nd_k (w : World) (T : Nat → Prop) (k : Int) : NdAt w T [.int .i64 k, .bool false, .bool false, .string ⟨#[]⟩, .slice none 0 0, .slice none 0 0, .slice none 0 0] (ndK k []) :=
  NdAt.of (ws := []) (rs := []) (kids := []) (Done.nil _ _ _ _) (Done.nil _ _ _ _) (Done.nil _ _ _ _)
section
variable {b : Nat} {s : ByteArray} {w : World} {st : PS} {B : Int → PS → Nd × PS} {d : Int}
set_option maxRecDepth 100000 in
set_option maxHeartbeats 4000000 in
theorem itemBody_f (hC : BodyC s B d) (h : PF b s w st) : Calls Tryz.prog 121 #[ptr b, .int .i64 d] w (NdAn b s w (itemP s B d st).1 (itemP s B d st).2) := by
  obtain ⟨q, hq⟩ : ∃ q, w.heap.size = q := ⟨_, rfl⟩
  have hlt := h.lt
  have h16 := h.b16
  have hqb : q ≠ b := by omega
  have hq16 : 8 ≤ q := by omega
  have hb1 : Below w.heap.size w (w.alloc (.cells N7 30)) := (Below.refl _ _).alloc (Nat.le_refl _) _
  have hZ := Lib.hid (show Blk (w.alloc (.cells N7 30)) q 30 N7 by rw [← hq]; exact Blk.new _ _ _)
  have hA1 := Lib.hid (h.below hb1)
  have hF1 := Lib.hid (Fb.of_below (b := b) hb1)
  obtain ⟨W, hW⟩ : ∃ W, w.alloc (.cells N7 30) = W := ⟨_, rfl⟩
  rw [hW] at hZ hA1 hF1
  have hWH := Lib.hid hW
  have hqH := Lib.hid hq
  have hnl := Lib.hid (newlines_f hA1.out)
  obtain ⟨st1, hst1⟩ : ∃ x, newl s st = x := ⟨_, rfl⟩
  have hr := Lib.hid (show itemP s B d st = if hasO s [59, 59] st1 || hasW s [101, 115, 97, 99] st1 then (ndK 5 [], fill s st1) else B d (fill s st1) by rw [← hst1]; rfl)
  rw [hst1] at hnl
  have ho := Lib.hid (fun W (hp : PF b s W st1) => isOp_f hp ⟨#[59, 59]⟩)
  rw [show (⟨#[59, 59]⟩ : ByteArray).toList = [59, 59] by kernel_rfl] at ho
  have hw := Lib.hid (fun W (hp : PF b s W st1) => isWord_f hp ⟨#[101, 115, 97, 99]⟩)
  rw [show (⟨#[101, 115, 97, 99]⟩ : ByteArray).toList = [101, 115, 97, 99] by kernel_rfl] at hw
  obtain ⟨o, ho1⟩ : ∃ x, hasO s [59, 59] st1 = x := ⟨_, rfl⟩
  obtain ⟨e1, he1⟩ : ∃ x, hasW s [101, 115, 97, 99] st1 = x := ⟨_, rfl⟩
  rw [ho1] at ho hr
  rw [he1] at hw hr
  have hc := Lib.hid (fun W hp => hC b W (fill s st1) hp)
  obtain ⟨A, hA⟩ : ∃ A, B d (fill s st1) = A := ⟨_, rfl⟩
  rw [hA] at hc hr
  clear hW hb1 h hq hst1 hA hC ho1 he1
  cases o
  · cases e1
    · have hr2 := hr.out
      rw [if_neg (by decide)] at hr2
      rw [hr2]
      obtain ⟨n, st2⟩ := A
      clear hr hr2
      go_enter Tryz.func121, Tryz.ntmps121
      go_upto_region 1 with fail
      rw [hWH.out, hqH.out]
      go_upto_region 2 with (go_at_call 19; refine hnl.out.mono ?_; rintro e w2 ⟨rfl, hA2, hF2⟩; have hA2H := Lib.hid hA2; have hF2H := Lib.hid (hF1.out.trans hF2); have hZ2 := Lib.hid (hF2.blk hZ.out hqb); clear hA2 hF2)
      go_upto_region 4 with (first
        | (go_at_call 76; refine (hw.out _ hA3H.out).mono ?_; rintro e w4 ⟨rfl, hA4, hF4⟩; have hA4H := Lib.hid hA4; have hF4H := Lib.hid (hF3H.out.trans hF4); have hZ4 := Lib.hid (hF4.blk hZ3.out hqb); clear hA4 hF4)
        | (go_at_call 61; refine (ho.out _ hA2H.out).mono ?_; rintro e w3 ⟨rfl, hA3, hF3⟩; have hA3H := Lib.hid hA3; have hF3H := Lib.hid (hF2H.out.trans hF3); have hZ3 := Lib.hid (hF3.blk hZ2.out hqb); clear hA3 hF3))
      go_wp2_with (go_at_call 98; refine (hc.out _ hA4H.out.fill).mono ?_; rintro e w5 ⟨k, x, y, nm, aw, nw, cw, ar, nr, cr, ak, nk, ck, T, rfl, hN, hT, hA5, hF5⟩; have hN5 := Lib.hid hN; have hT5 := Lib.hid hT; have hA5H := Lib.hid hA5; have hF5H := Lib.hid (hF4H.out.trans hF5); have hZ5 := Lib.hid (hF5.blk hZ4.out hqb); clear hN hT hA5 hF5
                   have z0 : w5.cell? ⟨q, 0, none⟩ = some (.int .i64 0) := hZ5.out.cell 0; have z1 : w5.cell? ⟨q, 1, none⟩ = some (.bool false) := hZ5.out.cell 1; have z2 : w5.cell? ⟨q, 2, none⟩ = some (.bool false) := hZ5.out.cell 2; have z3 : w5.cell? ⟨q, 3, none⟩ = some (.string ⟨#[]⟩) := hZ5.out.cell 3; have z4 : w5.cell? ⟨q, 4, none⟩ = some (.slice none 0 0) := hZ5.out.cell 4; have z5 : w5.cell? ⟨q, 5, none⟩ = some (.slice none 0 0) := hZ5.out.cell 5; have z6 : w5.cell? ⟨q, 6, none⟩ = some (.slice none 0 0) := hZ5.out.cell 6
                   have g0 := hZ5.out.frozen 0; have g1 := hZ5.out.frozen 1; have g2 := hZ5.out.frozen 2; have g3 := hZ5.out.frozen 3; have g4 := hZ5.out.frozen 4; have g5 := hZ5.out.frozen 5; have g6 := hZ5.out.frozen 6)
      refine bodyPost_ret (results_cell_row rfl _ _ q 30 #[.int .i64 k, .bool x, .bool y, .string nm, .slice aw nw cw, .slice ar nr cr, .slice ak nk ck] (0, 0) _ rfl (put7_blk hZ5.out _ _ _ _ _ _ _) Tryz.underlying30 rfl (by kernel_rfl)) rfl ?_
      have hHd : Hd b w n k x y nm aw nw cw ar nr cr ak nk ck T w5 := ⟨hN5.out, fun g hg => ⟨Nat.le_trans hF4H.out.size (hT5.out g hg).1, (hT5.out g hg).2⟩⟩
      exact hHd.an hZ5.out (fun e => by have := (hT5.out q e).1; have := hZ4.out.lt; omega) (Nat.le_of_eq hqH.out) hqb hq16 hA5H.out hF5H.out
    · have hr2 := hr.out
      rw [if_pos (by decide)] at hr2
      rw [hr2]
      clear hr hr2
      go_enter Tryz.func121, Tryz.ntmps121
      go_upto_region 1 with fail
      rw [hWH.out, hqH.out]
      go_upto_region 2 with (go_at_call 19; refine hnl.out.mono ?_; rintro e w2 ⟨rfl, hA2, hF2⟩; have hA2H := Lib.hid hA2; have hF2H := Lib.hid (hF1.out.trans hF2); have hZ2 := Lib.hid (hF2.blk hZ.out hqb); clear hA2 hF2)
      go_upto_region 3 with (first
          | (go_at_call 76; refine (hw.out _ hA3H.out).mono ?_; rintro e w4 ⟨rfl, hA4, hF4⟩; have hA4H := Lib.hid hA4; have hF4H := Lib.hid (hF3H.out.trans hF4); have hZ4 := Lib.hid (hF4.blk hZ3.out hqb); clear hA4 hF4)
          | (go_at_call 61; refine (ho.out _ hA2H.out).mono ?_; rintro e w3 ⟨rfl, hA3, hF3⟩; have hA3H := Lib.hid hA3; have hF3H := Lib.hid (hF2H.out.trans hF3); have hZ3 := Lib.hid (hF3.blk hZ2.out hqb); clear hA3 hF3))
      have z0 : w4.cell? ⟨q, 0, none⟩ = some (.int .i64 0) := hZ4.out.cell 0
      have z1 : w4.cell? ⟨q, 1, none⟩ = some (.bool false) := hZ4.out.cell 1
      have z2 : w4.cell? ⟨q, 2, none⟩ = some (.bool false) := hZ4.out.cell 2
      have z3 : w4.cell? ⟨q, 3, none⟩ = some (.string ⟨#[]⟩) := hZ4.out.cell 3
      have z4 : w4.cell? ⟨q, 4, none⟩ = some (.slice none 0 0) := hZ4.out.cell 4
      have z5 : w4.cell? ⟨q, 5, none⟩ = some (.slice none 0 0) := hZ4.out.cell 5
      have z6 : w4.cell? ⟨q, 6, none⟩ = some (.slice none 0 0) := hZ4.out.cell 6
      have g0 := hZ4.out.frozen 0
      have g1 := hZ4.out.frozen 1
      have g2 := hZ4.out.frozen 2
      have g3 := hZ4.out.frozen 3
      have g4 := hZ4.out.frozen 4
      have g5 := hZ4.out.frozen 5
      have g6 := hZ4.out.frozen 6
      go_wp2_with fail
      refine bodyPost_ret (results_cell_row rfl _ _ q 30 #[.int .i64 5, .bool false, .bool false, .string ⟨#[]⟩, .slice none 0 0, .slice none 0 0, .slice none 0 0] (0, 0) _ rfl (put7_blk hZ4.out _ _ _ _ _ _ _) Tryz.underlying30 rfl (by kernel_rfl)) rfl ?_
      have hHd : Hd b w (ndK 5 []) 5 false false ⟨#[]⟩ none 0 0 none 0 0 none 0 0 (fun _ => False) w4 := ⟨nd_k _ _ _, fun g hg => hg.elim⟩
      exact hHd.an hZ4.out (fun e => e) (Nat.le_of_eq hqH.out) hqb hq16 hA4H.out.fill hF4H.out
  · have hr2 := hr.out
    rw [if_pos (Bool.true_or _)] at hr2
    rw [hr2]
    clear hr hr2
    go_enter Tryz.func121, Tryz.ntmps121
    go_upto_region 1 with fail
    rw [hWH.out, hqH.out]
    go_upto_region 2 with (go_at_call 19; refine hnl.out.mono ?_; rintro e w2 ⟨rfl, hA2, hF2⟩; have hA2H := Lib.hid hA2; have hF2H := Lib.hid (hF1.out.trans hF2); have hZ2 := Lib.hid (hF2.blk hZ.out hqb); clear hA2 hF2)
    go_upto_region 3 with (go_at_call 61; refine (ho.out _ hA2H.out).mono ?_; rintro e w3 ⟨rfl, hA3, hF3⟩; have hA3H := Lib.hid hA3; have hF3H := Lib.hid (hF2H.out.trans hF3); have hZ3 := Lib.hid (hF3.blk hZ2.out hqb); clear hA3 hF3)
    have z0 : w3.cell? ⟨q, 0, none⟩ = some (.int .i64 0) := hZ3.out.cell 0
    have z1 : w3.cell? ⟨q, 1, none⟩ = some (.bool false) := hZ3.out.cell 1
    have z2 : w3.cell? ⟨q, 2, none⟩ = some (.bool false) := hZ3.out.cell 2
    have z3 : w3.cell? ⟨q, 3, none⟩ = some (.string ⟨#[]⟩) := hZ3.out.cell 3
    have z4 : w3.cell? ⟨q, 4, none⟩ = some (.slice none 0 0) := hZ3.out.cell 4
    have z5 : w3.cell? ⟨q, 5, none⟩ = some (.slice none 0 0) := hZ3.out.cell 5
    have z6 : w3.cell? ⟨q, 6, none⟩ = some (.slice none 0 0) := hZ3.out.cell 6
    have g0 := hZ3.out.frozen 0
    have g1 := hZ3.out.frozen 1
    have g2 := hZ3.out.frozen 2
    have g3 := hZ3.out.frozen 3
    have g4 := hZ3.out.frozen 4
    have g5 := hZ3.out.frozen 5
    have g6 := hZ3.out.frozen 6
    go_wp2_with fail
    refine bodyPost_ret (results_cell_row rfl _ _ q 30 #[.int .i64 5, .bool false, .bool false, .string ⟨#[]⟩, .slice none 0 0, .slice none 0 0, .slice none 0 0] (0, 0) _ rfl (put7_blk hZ3.out _ _ _ _ _ _ _) Tryz.underlying30 rfl (by kernel_rfl)) rfl ?_
    have hHd : Hd b w (ndK 5 []) 5 false false ⟨#[]⟩ none 0 0 none 0 0 none 0 0 (fun _ => False) w3 := ⟨nd_k _ _ _, fun g hg => hg.elim⟩
    exact hHd.an hZ3.out (fun e => e) (Nat.le_of_eq hqH.out) hqb hq16 hA3H.out.fill hF3H.out
end
end Go.Proofs.YtnhbcmhinhncfaaGreatDoor
/- A series of trees. Conditions: the parser lies as stated; what reads and what asks on are handed in. -/
namespace Go.Proofs.YtnhbcmhinhncfaaGreatDoor
open Go.RowKit Go.Shelf Go.PlainAid
set_option linter.unusedVariables false
set_option linter.unusedSimpArgs false
attribute [local go_sem] Oper.semAt_some
theorem infoNd : (Tryz.prog.info? 30).map (fun i => (i.zero, i.size, i.bytes)) = some (some (.agg N7), 7, 104) := by kernel_rfl
section
variable {b : Nat} {s : ByteArray} {w : World} {st : PS} {R : PS → Nd × PS} {M : PS → Bool × PS}
/-- What holds at the head of the loop. -/
structure SnI (b q5 : Nat) (s : ByteArray) (w : World) (st : PS) (R : PS → Nd × PS) (M : PS → Bool × PS) (CI : World → Prop) (J : PS → Prop) (st0 : PS) (T : Nat → Prop) (v : Value) (xs : List Nd) (W : World) : Prop where
  pf : PF b s W (R st0).2
  ok0 : PW s st0
  j0 : J st0
  ci : CI W
  fb : Fb b w W
  blk : ∃ (k : Int) (x y : Bool) (nm : ByteArray) (aw : Option Addr) (nw cw : Nat) (ar : Option Addr) (nr cr : Nat) (ak : Option Addr) (nk ck : Nat), Blk W q5 30 #[.int .i64 k, .bool x, .bool y, .string nm, .slice aw nw cw, .slice ar nr cr, .slice ak nk ck]
  row : RowOf ElN 30 w.heap.size W T v xs
  off : v.ownBlock ≠ some q5
  offT : ¬ T q5
  ser : ser s R (fun _ => M) st = (xs ++ (serM (s := s) R (fun _ => M) (R st0).1 (R st0).2).1, (serM (s := s) R (fun _ => M) (R st0).1 (R st0).2).2)
  ln : xs.length + rem s st0 ≤ 140001
set_option maxRecDepth 100000 in
set_option maxHeartbeats 4000000 in
theorem serN_any (kR kM : Nat) (fi1 ca1 fi2 ca2 : Array Value) (hE1 : Enters Tryz.prog kR) (hE2 : Enters Tryz.prog kM) (CI : World → Prop) (hCI : ∀ W W', CI W → Fb b W W' → CI W')
    (J : PS → Prop) (hJ : ∀ st, PW s st → J st → J (M (R st).2).2)
    (hR : ∀ W st, CI W → J st → PF b s W st → Calls Tryz.prog kR (fi1 ++ ca1) W (NdAn b s W (R st).1 (R st).2))
    (hM : ∀ W st (k : Int) (x y : Bool) (nm : ByteArray) (aw : Option Addr) (nw cw : Nat) (ar : Option Addr) (nr cr : Nat) (ak : Option Addr) (nk ck : Nat), CI W → PF b s W st → Calls Tryz.prog kM (fi2 ++ #[.agg #[.int .i64 k, .bool x, .bool y, .string nm, .slice aw nw cw, .slice ar nr cr, .slice ak nk ck]] ++ ca2) W (An b s W (.bool (M st).1) (M st).2))
    (hP : ∀ st, PW s st → PW s (M (R st).2).2) (hd : ∀ st, PW s st → (M (R st).2).1 = true → rem s (M (R st).2).2 < rem s st)
    (h : PF b s w st) (hc : CI w) (hj : J st) :
    Calls Tryz.prog 77 #[.func (.func kR) fi1 ca1, .func (.func kM) fi2 ca2] w (RowAn ElN 30 b s w (ser s R (fun _ => M) st).1 (ser s R (fun _ => M) st).2) := by
  obtain ⟨i0, hi0, hz0, hz1, hz2⟩ := info_parts infoNd
  have hi0H := Lib.hid hi0
  have hE1' : ∀ (args : Array Value) (w : World), (callFunc kR args).run Tryz.prog w = .ok (.enter kR args) w := hE1
  have hE2' : ∀ (args : Array Value) (w : World), (callFunc kM args).run Tryz.prog w = .ok (.enter kM args) w := hE2
  have hRH := Lib.hid hR
  have hMH := Lib.hid hM
  have hH := Lib.hid h
  have hcH := Lib.hid hc
  have hjH := Lib.hid hj
  have hJH := Lib.hid hJ
  have hCIH := Lib.hid hCI
  have hlt := h.lt
  have hPH := Lib.hid hP
  have hdH := Lib.hid hd
  clear hE1 hE2 hR hM h hc hi0 hCI hP hd hj hJ
  have hr1 := Lib.hid (hRH.out w st hcH.out hjH.out hH.out)
  go_enter Tryz.func77, Tryz.ntmps77
  go_upto_region 2 with (go_at_fn kR; refine hr1.out.mono ?_; rintro e w1 ⟨k1, x1, y1, nm1, aw1, nw1, cw1, ar1, nr1, cr1, ak1, nk1, ck1, T1, rfl, hN1, hT1, hA1, hF1⟩; have hN1H := Lib.hid hN1; have hT1H := Lib.hid hT1; have hA1H := Lib.hid hA1; have hF1H := Lib.hid hF1; clear hN1 hT1 hA1 hF1)
  obtain ⟨q5, hq5⟩ : ∃ q, w1.heap.size = q := ⟨_, rfl⟩
  obtain ⟨W1, hW1⟩ : ∃ W, w1.alloc (.cells #[.int .i64 k1, .bool x1, .bool y1, .string nm1, .slice aw1 nw1 cw1, .slice ar1 nr1 cr1, .slice ak1 nk1 ck1] 30) = W := ⟨_, rfl⟩
  have hs1 : W1.heap.size = q5 + 1 := by rw [← hW1, World.size_alloc, hq5]
  have hb1 : Below w1.heap.size w1 W1 := by rw [← hW1]; exact (Below.refl _ _).alloc (Nat.le_refl _) _
  have hB1 : Blk W1 q5 30 #[.int .i64 k1, .bool x1, .bool y1, .string nm1, .slice aw1 nw1 cw1, .slice ar1 nr1 cr1, .slice ak1 nk1 ck1] := by rw [← hW1, ← hq5]; exact Blk.new _ _ _
  rw [hW1, hq5]
  have hw1s : w.heap.size ≤ q5 := by rw [← hq5]; exact hF1H.out.size
  have hqH := Lib.hid hq5
  have c0 : W1.cell? ⟨q5, 0, none⟩ = some (.int .i64 k1) := hB1.cell 0
  have c1 : W1.cell? ⟨q5, 1, none⟩ = some (.bool x1) := hB1.cell 1
  have c2 : W1.cell? ⟨q5, 2, none⟩ = some (.bool y1) := hB1.cell 2
  have c3 : W1.cell? ⟨q5, 3, none⟩ = some (.string nm1) := hB1.cell 3
  have c4 : W1.cell? ⟨q5, 4, none⟩ = some (.slice aw1 nw1 cw1) := hB1.cell 4
  have c5 : W1.cell? ⟨q5, 5, none⟩ = some (.slice ar1 nr1 cr1) := hB1.cell 5
  have c6 : W1.cell? ⟨q5, 6, none⟩ = some (.slice ak1 nk1 ck1) := hB1.cell 6
  have hb1H := Lib.hid hb1
  have hB1H := Lib.hid hB1
  have hs1H := Lib.hid hs1
  clear hW1 hb1 hB1 hq5
  go_wp2_with fail
  go_loopg [6] (rem s st) (fun g v wr => ∃ (st0 : PS) (T : Nat → Prop) (xs : List Nd), g = rem s st0 ∧ Hid (SnI b q5 s w st R M CI J st0 T v xs wr))
  case atStart =>
    have hb2 : Below W1.heap.size W1 (W1.alloc (.cells #[.int .i64 k1, .bool x1, .bool y1, .string nm1, .slice aw1 nw1 cw1, .slice ar1 nr1 cr1, .slice ak1 nk1 ck1] 30)) := (Below.refl _ _).alloc (Nat.le_refl _) _
    have hB2 : Blk (W1.alloc (.cells #[.int .i64 k1, .bool x1, .bool y1, .string nm1, .slice aw1 nw1 cw1, .slice ar1 nr1 cr1, .slice ak1 nk1 ck1] 30)) (q5 + 1) 30 #[.int .i64 k1, .bool x1, .bool y1, .string nm1, .slice aw1 nw1 cw1, .slice ar1 nr1 cr1, .slice ak1 nk1 ck1] := by rw [← hs1H.out]; exact Blk.new _ _ _
    have hbb2 := (Fb.of_below (b := b) hb1H.out).trans (Fb.of_below hb2)
    have hbb := hF1H.out.trans hbb2
    have hNx := hN1H.out.keep (fun g hg => hbb2.block g (hT1H.out g hg).2 (by have := (hT1H.out g hg).1; omega)) (fun _ h => h)
    refine ⟨st, T1, [(R st).1], rfl, Lib.hid ⟨(hA1H.out.below hb1H.out).below hb2, hH.out.ok, hjH.out, hCIH.out _ _ hcH.out hbb, hbb, ⟨k1, x1, y1, nm1, aw1, nw1, cw1, ar1, nr1, cr1, ak1, nk1, ck1, hB1H.out.alloc _⟩, RowOf.one_ hB2 (by omega) (show ElN.at_ _ _ [.int .i64 k1, .bool x1, .bool y1, .string nm1, .slice aw1 nw1 cw1, .slice ar1 nr1 cr1, .slice ak1 nk1 ck1] _ from hNx) (fun g h => ⟨(hT1H.out g h).1, Nat.lt_of_lt_of_le (hT1H.out g h).2 hbb2.size, by have := (hT1H.out g h).2; have := hqH.out; omega⟩), ?_, fun h => by have := (hT1H.out _ h).2; have := hqH.out; omega, ?_, ?_⟩⟩
    · show some (q5 + 1) ≠ some q5
      intro e
      injection e with e
      omega
    · rw [ser_is R (fun _ => M) hPH.out hdH.out hH.out.ok]
      rfl
    · have := rem_bd hH.out.ok
      show 1 + rem s st ≤ 140001
      omega
  case round =>
    clear hr1 hA1H hF1H hb1H hB1H hs1H hN1H hT1H hqH c0 c1 c2 c3 c4 c5 c6
    obtain ⟨st0, T, xs, hg, hI⟩ := hrel
    obtain ⟨k2, x2, y2, nm2, aw2, nw2, cw2, ar2, nr2, cr2, ak2, nk2, ck2, hB⟩ := hI.out.blk
    have hm := Lib.hid (hMH.out wr (R st0).2 k2 x2 y2 nm2 aw2 nw2 cw2 ar2 nr2 cr2 ak2 nk2 ck2 hI.out.ci hI.out.pf)
    have hser := Lib.hid hI.out.ser
    have yy0 : wr.cell? ⟨q5, 0, none⟩ = some (.int .i64 k2) := hB.cell 0
    have yy1 : wr.cell? ⟨q5, 1, none⟩ = some (.bool x2) := hB.cell 1
    have yy2 : wr.cell? ⟨q5, 2, none⟩ = some (.bool y2) := hB.cell 2
    have yy3 : wr.cell? ⟨q5, 3, none⟩ = some (.string nm2) := hB.cell 3
    have yy4 : wr.cell? ⟨q5, 4, none⟩ = some (.slice aw2 nw2 cw2) := hB.cell 4
    have yy5 : wr.cell? ⟨q5, 5, none⟩ = some (.slice ar2 nr2 cr2) := hB.cell 5
    have yy6 : wr.cell? ⟨q5, 6, none⟩ = some (.slice ak2 nk2 ck2) := hB.cell 6
    obtain ⟨K, hrow, hat⟩ := hI.out.row.row
    obtain ⟨a, c, rfl⟩ := ownsRow_slice hrow
    obtain ⟨mb, hmb⟩ : ∃ v, (M (R st0).2).1 = v := ⟨_, rfl⟩
    rw [hmb] at hm
    have hln := hI.out.ln
    obtain ⟨n, hn⟩ : ∃ n, xs.length = n := ⟨_, rfl⟩
    have hnH := Lib.hid hn
    rw [hn] at hln ⊢
    have hBH := Lib.hid hB
    clear hrow hat hn hB
    cases mb
    · have hs2 := Lib.hid (show ser s R (fun _ => M) st = (xs, (M (R st0).2).2) by
        rw [hser.out]
        unfold serM
        rw [hmb]
        simp)
      clear hmb
      go_wp2_with (go_at_fn kM; refine hm.out.mono ?_; rintro e w2 ⟨rfl, hA2, hF2⟩; have hA2H := Lib.hid hA2; have hF2H := Lib.hid hF2; clear hA2 hF2)
      go_ret
      obtain ⟨hdn, hge⟩ := (hI.out.row.keep hF2H.out (by exact hlt)).done
      unfold RowAn
      rw [hs2.out]
      rw [hnH.out] at hdn ⊢
      exact ⟨a, c, _, rfl, hdn, fun g hg => by rw [hnH.out] at hge; exact hge g hg, hA2H.out, hI.out.fb.trans hF2H.out⟩
    · have hd2 := hdH.out st0 hI.out.ok0 hmb
      have hp2 := hPH.out st0 hI.out.ok0
      have hj2 := hJH.out st0 hI.out.ok0 hI.out.j0
      have hse2 := Lib.hid (show serM (s := s) R (fun _ => M) (R st0).1 (R st0).2 = ser s R (fun _ => M) (M (R st0).2).2 by unfold serM; rw [hmb]; rfl)
      obtain ⟨st2, hst2⟩ : ∃ v, (M (R st0).2).2 = v := ⟨_, rfl⟩
      rw [hst2] at hm hd2 hp2 hse2 hj2
      have hser2 := ser_is R (fun _ => M) hPH.out hdH.out hp2
      have hr2 := Lib.hid (fun W hc hp => hRH.out W st2 hc hj2 hp)
      have hser2H := Lib.hid hser2
      clear hmb hst2 hser2
      have hd2H := Lib.hid hd2
      have hp2H := Lib.hid hp2
      have hj2H := Lib.hid hj2
      have f0 := hBH.out.frozen 0
      have f1 := hBH.out.frozen 1
      have f2 := hBH.out.frozen 2
      have f3 := hBH.out.frozen 3
      have f4 := hBH.out.frozen 4
      have f5 := hBH.out.frozen 5
      have f6 := hBH.out.frozen 6
      have hq5b : q5 ≠ b := by omega
      have hq516 : 8 ≤ q5 := by have := hH.out.b16; omega
      clear hd2 hp2 hj2
      go_upto_region 4 with (go_at_fn kM; refine hm.out.mono ?_; rintro e w2 ⟨rfl, hA2, hF2⟩; have hA2H := Lib.hid hA2; have hF2H := Lib.hid hF2; clear hA2 hF2)
      have hr3 := Lib.hid (hr2.out w2 (hCIH.out _ _ hI.out.ci hF2H.out) hA2H.out)
      have hB2 := Lib.hid (hF2H.out.blk hBH.out hq5b)
      go_upto_region 5 with (go_at_fn kR; refine hr3.out.mono ?_; rintro e w3 ⟨k3, x3, y3, nm3, aw3, nw3, cw3, ar3, nr3, cr3, ak3, nk3, ck3, T3, rfl, hN3, hT3, hA3, hF3⟩; have hN3H := Lib.hid hN3; have hT3H := Lib.hid hT3; have hA3H := Lib.hid hA3; have hF3H := Lib.hid hF3; have hB3 := Lib.hid (hF3.blk hB2.out hq5b); have k0_ : w3.cell? ⟨q5, 0, none⟩ = some (.int .i64 k2) := hB3.out.cell 0; have k1_ : w3.cell? ⟨q5, 1, none⟩ = some (.bool x2) := hB3.out.cell 1; have k2_ : w3.cell? ⟨q5, 2, none⟩ = some (.bool y2) := hB3.out.cell 2; have k3_ : w3.cell? ⟨q5, 3, none⟩ = some (.string nm2) := hB3.out.cell 3; have k4_ : w3.cell? ⟨q5, 4, none⟩ = some (.slice aw2 nw2 cw2) := hB3.out.cell 4; have k5_ : w3.cell? ⟨q5, 5, none⟩ = some (.slice ar2 nr2 cr2) := hB3.out.cell 5; have k6_ : w3.cell? ⟨q5, 6, none⟩ = some (.slice ak2 nk2 ck2) := hB3.out.cell 6; have g0 := hB3.out.frozen 0; have g1 := hB3.out.frozen 1; have g2 := hB3.out.frozen 2; have g3 := hB3.out.frozen 3; have g4 := hB3.out.frozen 4; have g5 := hB3.out.frozen 5; have g6 := hB3.out.frozen 6; clear hN3 hT3 hA3 hF3)
      have hrow3 := hI.out.row.keep (hF2H.out.trans hF3H.out) hlt
      have hfb3 := hI.out.fb.trans (hF2H.out.trans hF3H.out)
      have hT3q : ¬ T3 q5 := fun e => by have := (hT3H.out _ e).1; have := hB2.out.lt; omega
      have hpf4 := hA3H.out.put7 hB3.out (by decide) hq5b hq516 (.int .i64 k3) (.bool x3) (.bool y3) (.string nm3) (.slice aw3 nw3 cw3) (.slice ar3 nr3 cr3) (.slice ak3 nk3 ck3)
      have hfb4 := put7_fb hfb3 hw1s (.int .i64 k3) (.bool x3) (.bool y3) (.string nm3) (.slice aw3 nw3 cw3) (.slice ar3 nr3 cr3) (.slice ak3 nk3 ck3)
      have hB4 : Blk (put7 w3 q5 (.int .i64 k3) (.bool x3) (.bool y3) (.string nm3) (.slice aw3 nw3 cw3) (.slice ar3 nr3 cr3) (.slice ak3 nk3 ck3)) q5 30 #[.int .i64 k3, .bool x3, .bool y3, .string nm3, .slice aw3 nw3 cw3, .slice ar3 nr3 cr3, .slice ak3 nk3 ck3] := put7_blk hB3.out _ _ _ _ _ _ _
      have hN4 : NdAt (put7 w3 q5 (.int .i64 k3) (.bool x3) (.bool y3) (.string nm3) (.slice aw3 nw3 cw3) (.slice ar3 nr3 cr3) (.slice ak3 nk3 ck3)) T3 [.int .i64 k3, .bool x3, .bool y3, .string nm3, .slice aw3 nw3 cw3, .slice ar3 nr3 cr3, .slice ak3 nk3 ck3] (R st2).1 := hN3H.out.keep (fun g hg => put7_far _ _ _ _ _ _ _ _ _ (fun e => hT3q (e ▸ hg))) (fun _ h => h)
      have hs4 : (put7 w3 q5 (.int .i64 k3) (.bool x3) (.bool y3) (.string nm3) (.slice aw3 nw3 cw3) (.slice ar3 nr3 cr3) (.slice ak3 nk3 ck3)).heap.size = w3.heap.size := put7_size _ _ _ _ _ _ _ _ _
      have hrow4 := hrow3.same (w' := put7 w3 q5 (.int .i64 k3) (.bool x3) (.bool y3) (.string nm3) (.slice aw3 nw3 cw3) (.slice ar3 nr3 cr3) (.slice ak3 nk3 ck3)) (Nat.le_of_eq (put7_size _ _ _ _ _ _ _ _ _).symm) (fun g hg hc => put7_far _ _ _ _ _ _ _ _ _ (fun e => by
        subst e
        rcases hc with hc | hc
        · exact hI.out.offT hc
        · exact hI.out.off hc))
      obtain ⟨W4, hW4⟩ : ∃ W, put7 w3 q5 (.int .i64 k3) (.bool x3) (.bool y3) (.string nm3) (.slice aw3 nw3 cw3) (.slice ar3 nr3 cr3) (.slice ak3 nk3 ck3) = W := ⟨_, rfl⟩
      rw [hW4] at hpf4 hfb4 hB4 hrow4 hN4 hs4
      unfold put7 at hW4
      rw [hW4]
      clear hW4 f0 f1 f2 f3 f4 f5 f6 g0 g1 g2 g3 g4 g5 g6 k0_ k1_ k2_ k3_ k4_ k5_ k6_ yy0 yy1 yy2 yy3 yy4 yy5 yy6 hrow3
      have yy0 : W4.cell? ⟨q5, 0, none⟩ = some (.int .i64 k3) := hB4.cell 0
      have yy1 : W4.cell? ⟨q5, 1, none⟩ = some (.bool x3) := hB4.cell 1
      have yy2 : W4.cell? ⟨q5, 2, none⟩ = some (.bool y3) := hB4.cell 2
      have yy3 : W4.cell? ⟨q5, 3, none⟩ = some (.string nm3) := hB4.cell 3
      have yy4 : W4.cell? ⟨q5, 4, none⟩ = some (.slice aw3 nw3 cw3) := hB4.cell 4
      have yy5 : W4.cell? ⟨q5, 5, none⟩ = some (.slice ar3 nr3 cr3) := hB4.cell 5
      have yy6 : W4.cell? ⟨q5, 6, none⟩ = some (.slice ak3 nk3 ck3) := hB4.cell 6
      have hb5 : Below W4.heap.size W4 (W4.alloc (.cells #[.int .i64 k3, .bool x3, .bool y3, .string nm3, .slice aw3 nw3 cw3, .slice ar3 nr3 cr3, .slice ak3 nk3 ck3] 30)) := (Below.refl _ _).alloc (Nat.le_refl _) _
      have hrow5 := hrow4.same hb5.size (fun g hg _ => hb5.block g hg)
      have hN5 := Lib.hid (hN4.keep (fun g hg => hb5.block g (by rw [hs4]; exact (hT3H.out g hg).2)) (fun _ h => h))
      have hs5 : (W4.alloc (.cells #[.int .i64 k3, .bool x3, .bool y3, .string nm3, .slice aw3 nw3 cw3, .slice ar3 nr3 cr3, .slice ak3 nk3 ck3] 30)).heap.size = W4.heap.size + 1 := World.size_alloc _ _
      have hT5 := Lib.hid (fun g (hg : T3 g) => (show w.heap.size ≤ g ∧ g < (W4.alloc (.cells #[.int .i64 k3, .bool x3, .bool y3, .string nm3, .slice aw3 nw3 cw3, .slice ar3 nr3 cr3, .slice ak3 nk3 ck3] 30)).heap.size ∧ w2.heap.size ≤ g from ⟨Nat.le_trans (hI.out.fb.trans hF2H.out).size (hT3H.out g hg).1, by have := (hT3H.out g hg).2; omega, (hT3H.out g hg).1⟩))
      have hfb5 := Lib.hid (hfb4.trans (Fb.of_below hb5))
      have hpf5 := Lib.hid (hpf4.below hb5)
      have hB5 := Lib.hid (hB4.alloc (.cells #[.int .i64 k3, .bool x3, .bool y3, .string nm3, .slice aw3 nw3 cw3, .slice ar3 nr3 cr3, .slice ak3 nk3 ck3] 30))
      have hsz5 := Lib.hid hfb4.size
      have hB5q := hB4.lt
      have hrow5H := Lib.hid hrow5
      obtain ⟨K5, hown5, hat5⟩ := hrow5.row
      have hrl := Lib.hid (fun g (hg : (Value.slice a xs.length c).ownBlock = some g) => (show g < w2.heap.size from row_lt (hI.out.row.keep hF2H.out hlt).row.choose_spec.1 hg))
      rw [hnH.out] at hown5 hrl
      have hown5H := Lib.hid hown5
      have hat5H := Lib.hid hat5
      clear hrow5 hown5 hat5 hb5 hfb4 hpf4 hB4 hrow4 hfb3 hs5 hN4 hs4
      go_wp2_with (at_builtin; refine wpList_app rfl _ _ 23 rfl w.heap.size 30 i0 _ 7 104 Tryz.underlying23 hi0H.out hz0 hz1 hz2 rfl (by decide) (.slice a n c) n (flat K5 n) (by rfl) hown5H.out (some ⟨W4.heap.size, 0, none⟩) 1 1 [.int .i64 k3, .bool x3, .bool y3, .string nm3, .slice aw3 nw3 cw3, .slice ar3 nr3 cr3, .slice ak3 nk3 ck3] (by rfl) (by rfl) (src_blk (Blk.new W4 _ _)) (by intro u hu; simp at hu; rcases hu with rfl | rfl | rfl | rfl | rfl | rfl | rfl <;> rfl) (by omega) (by omega) (Nat.le_trans hsz5.out (by rw [World.size_alloc]; exact Nat.le_succ _)) ?_; intro a6 c6 w6 hown6 hg6 ho6)
      have hnew := hrow5H.out.app (Tx := T3) (x := (R st2).1) (a' := a6) (c' := c6) (m := n + 1) (w' := w6) (cx := [.int .i64 k3, .bool x3, .bool y3, .string nm3, .slice aw3 nw3 cw3, .slice ar3 nr3 cr3, .slice ak3 nk3 ck3]) ⟨K5, by rw [hnH.out]; exact hown6, hat5H.out⟩ (by rw [hnH.out]) hN5.out (fun g hg h => by rw [hnH.out] at hg; have := hrl.out g hg; have := (hT5.out g h).2.2; omega) (fun g h => ⟨(hT5.out g h).1, (hT5.out g h).2.1⟩) (by rw [hnH.out]; exact hg6) (by rw [hnH.out]; exact ho6)
      have hq5s : q5 < W4.heap.size := hB5q
      go_roundg (rem s st2)
      case measure => rw [hg]; exact hd2H.out
      case rel =>
        have hoff : (Value.slice a n c).ownBlock ≠ some q5 := by rw [← hnH.out]; exact hI.out.off
        refine ⟨st2, _, xs ++ [(R st2).1], rfl, Lib.hid ⟨hpf5.out.grown hown5H.out (by decide) hlt hg6, hp2H.out, hj2H.out, hCIH.out _ _ hcH.out (hfb5.out.grown hown5H.out (Nat.le_refl _) hg6), hfb5.out.grown hown5H.out (Nat.le_refl _) hg6, ⟨k3, x3, y3, nm3, aw3, nw3, cw3, ar3, nr3, cr3, ak3, nk3, ck3, (hg6.block q5 (by rw [World.size_alloc]; omega) (fun e => hoff e.symm)).trans hB5.out⟩, hnew, fun e => ?_, fun h => h.elim hI.out.offT hT3q, ?_, ?_⟩⟩
        · rcases ho6 with h6 | h6
          · exact hoff (h6.symm.trans e)
          · have h7 := h6.symm.trans e
            rw [World.size_alloc] at h7
            injection h7 with h7
            omega
        · rw [hser.out, hse2.out, hser2H.out]
          simp
        · have := hd2H.out
          rw [List.length_append, hnH.out]
          show n + 1 + rem s st2 ≤ 140001
          omega
end
end Go.Proofs.YtnhbcmhinhncfaaGreatDoor
