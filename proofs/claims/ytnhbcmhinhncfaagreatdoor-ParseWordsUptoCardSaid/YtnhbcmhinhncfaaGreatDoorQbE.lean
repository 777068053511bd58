/- A for. Conditions: the parser lies as stated; a body's contract is handed in. -/
import Derived.Test.YtnhbcmhinhncfaaGreatDoorQbD
import Derived.Deep.RegionLaw
namespace Go.Proofs.YtnhbcmhinhncfaaGreatDoor
open Go.RowKit Go.Shelf Go.PlainAid
set_option linter.unusedVariables false
set_option linter.unusedSimpArgs false
attribute [local go_sem] Oper.semAt_some
theorem fldk (k : Int) (x : ByteArray) (p : Int) (o : ByteArray) (r : Bool) (w : World) : (Instr.field 58 (.agg #[.int .i64 k, .string x, .int .i64 p, .string o, .bool r]) 0).run Tryz.prog w = .ok (.int .i64 k) w := by kernel_rfl
theorem fldx (k : Int) (x : ByteArray) (p : Int) (o : ByteArray) (r : Bool) (w : World) : (Instr.field 58 (.agg #[.int .i64 k, .string x, .int .i64 p, .string o, .bool r]) 1).run Tryz.prog w = .ok (.string x) w := by kernel_rfl
/-- One kid, in a new block. -/
theorem NdB.kid1 {q n₀ : Nat} {k : Int} {x y : Bool} {nm : ByteArray} {ws : List ByteArray} {rs : List Rd} {vw vr : Value} {T Tx : Nat → Prop} {W : World} {n : Nd} {cx : List Value} (h : NdB q n₀ k x y nm ws rs [] vw vr (.slice none 0 0) T W) (hN : NdAt W Tx cx n)
    (hT : ∀ g, Tx g → n₀ ≤ g ∧ g < W.heap.size ∧ g ≠ q ∧ vw.ownBlock ≠ some g ∧ vr.ownBlock ≠ some g) (hn : n₀ ≤ W.heap.size) :
    NdB q n₀ k x y nm ws rs [n] vw vr (.slice (some ⟨W.heap.size, 0, none⟩) 1 1) (fun g => T g ∨ Tx g) ((W.setCell ⟨q, 6, none⟩ (.slice (some ⟨W.heap.size, 0, none⟩) 1 1)).alloc (.cells cx.toArray 30)) := by
  have hB8 := h.blk.set_ 6 (.slice (some ⟨W.heap.size, 0, none⟩) 1 1)
  obtain ⟨W8, hW8⟩ : ∃ W8, W.setCell ⟨q, 6, none⟩ (.slice (some ⟨W.heap.size, 0, none⟩) 1 1) = W8 := ⟨_, rfl⟩
  have hs8 : W8.heap.size = W.heap.size := by rw [← hW8]; exact World.size_setCell _ _ _
  have hk8 : ∀ g, g ≠ q → W8.heap[g]? = W.heap[g]? := fun g hg => by rw [← hW8]; exact Below.heap_setCell _ _ _ _ hg
  rw [hW8] at hB8 ⊢
  have hb : Below W8.heap.size W8 (W8.alloc (.cells cx.toArray 30)) := (Below.refl _ _).alloc (Nat.le_refl _) _
  have hs9 : (W8.alloc (.cells cx.toArray 30)).heap.size = W.heap.size + 1 := by rw [World.size_alloc, hs8]
  have hBn : Blk (W8.alloc (.cells cx.toArray 30)) W.heap.size 30 cx.toArray := by rw [← hs8]; exact Blk.new _ _ _
  have hB9 := hB8.alloc (.cells cx.toArray 30)
  obtain ⟨W9, hW9⟩ : ∃ W9, W8.alloc (.cells cx.toArray 30) = W9 := ⟨_, rfl⟩
  rw [hW9] at hb hs9 hBn hB9 ⊢
  have hkk : ∀ g, g < W.heap.size → g ≠ q → W9.heap[g]? = W.heap[g]? := fun g h1 h2 => (hb.block g (by omega)).trans (hk8 g h2)
  have hql := h.blk.lt
  have hTT : ∀ g, (T g ∨ Tx g) → n₀ ≤ g ∧ g < W.heap.size ∧ g ≠ q := fun g hg => hg.elim (fun h1 => ⟨(h.rw_.ge g h1).1, (h.rw_.ge g h1).2, fun e => h.nq (e ▸ h1)⟩) (fun h1 => ⟨(hT g h1).1, (hT g h1).2.1, (hT g h1).2.2.1⟩)
  have hge : ∀ g, (T g ∨ Tx g) → n₀ ≤ g ∧ g < W9.heap.size := fun g hg => ⟨(hTT g hg).1, by have := (hTT g hg).2.1; omega⟩
  refine ⟨hB9, (h.rw_.same (by omega) (fun g hl hc => hkk g hl (fun e => by subst e; exact hc.elim h.nq h.qw))).more (T' := fun g => T g ∨ Tx g) (fun _ => .inl) (fun g e ht => ht.elim (h.rw_.off g e) (fun ht => (hT g ht).2.2.2.1 e)) hge, (h.rr.same (by omega) (fun g hl hc => hkk g hl (fun e => by subst e; exact hc.elim h.nq h.qr))).more (T' := fun g => T g ∨ Tx g) (fun _ => .inl) (fun g e ht => ht.elim (h.rr.off g e) (fun ht => (hT g ht).2.2.2.2 e)) hge,
    RowOf.one_ hBn hn (show ElN.at_ _ _ cx n from hN.keep (fun g hg => hkk g (hT g hg).2.1 (hT g hg).2.2.1) (fun _ => .inr)) (fun g hg => ⟨(hge g hg).1, (hge g hg).2, by have := (hTT g hg).2.1; omega⟩), fun e => e.elim h.nq (fun e => (hT q e).2.2.1 rfl), h.qw, h.qr, fun e => by have h1 := Option.some.inj e; dsimp only at h1; omega, h.wr, fun g e e2 => by have h1 := (h.rw_.own_lt e).2; have h2 := Option.some.inj e2; dsimp only at h2; omega, fun g e e2 => by have h1 := (h.rr.own_lt e).2; have h2 := Option.some.inj e2; dsimp only at h2; omega⟩
section
variable {b : Nat} {s : ByteArray} {w : World} {st : PS} {B : Int → PS → Nd × PS} {d : Int}
/-- What holds at the head of the loop. -/
structure FoI (b q4 q6 : Nat) (s : ByteArray) (w : World) (A : List ByteArray × PS) (nm : ByteArray) (st0 : PS) (l : List ByteArray) (f : Nat) (W : World) : Prop where
  pf : PF b s W st0
  fb : Fb b w W
  z : Blk W q4 30 N7
  nd : ∃ (a : Option Addr) (c : Nat), NdB q6 w.heap.size 12 false true nm l [] [] (.slice a l.length c) (.slice none 0 0) (.slice none 0 0) (fun _ => False) W ∧ (Value.slice a l.length c).ownBlock ≠ some q4
  an : A = wordsP s f l st0
  lf : rem s st0 < f
  ln : l.length + rem s st0 ≤ 140001
/-- The words of a for, and what stands behind them. -/
theorem for_is (B : Int → PS → Nd × PS) (d : Int) (st st1 st2 : PS) (t : Tk) (inn : Bool) (h1 : t = peekP s st) (h2 : st1 = newl s (needP s (t.kind == 1 && Go.Proofs.YtnhbcmhinhncfaaGreatDoor.W.isName t.text) st)) (h3 : inn = hasW s [105, 110] st1) (h4 : st2 = tookP s 1 [105, 110] st1) :
    forP s B d st = (fun r : List ByteArray × PS => ((.mk 12 false inn t.text r.1 [] [(doG s B d r.2).1] : Nd), (doG s B d r.2).2)) (if inn then (fun w : List ByteArray × PS => (w.1, newl s (needP s (hasO s [59] w.2 || (peekP s w.2).kind == 3) w.2))) (wordsP s (rem s st2 + 1) [] st2) else ([], if hasO s [59] st2 then newl s (nextP s st2) else fill s st2)) := by
  subst h1 h2 h3 h4
  rfl
set_option maxRecDepth 100000 in
set_option maxHeartbeats 8000000 in
theorem forEach_f (hC : BodyC s B d) (h : PF b s w st) : Calls Tryz.prog 104 #[ptr b, .int .i64 d] w (NdAn b s w (forP s B d st).1 (forP s B d st).2) := by
  obtain ⟨i0, hi0, hz0, hz1, hz2⟩ := info_parts infoSt
  have hi0H := Lib.hid hi0
  obtain ⟨q4, hq4⟩ : ∃ x, w.heap.size = x := ⟨_, rfl⟩
  have hlt := h.lt
  have h16 := h.b16
  have hqb2 : q4 ≠ b := by omega
  have hq16 : 8 ≤ q4 := by omega
  obtain ⟨W, hW⟩ : ∃ W, w.alloc (.cells N7 30) = W := ⟨_, rfl⟩
  have hb1 : Below w.heap.size w W := by rw [← hW]; exact (Below.refl _ _).alloc (Nat.le_refl _) _
  have hZ := Lib.hid (show Blk W q4 30 N7 by rw [← hW, ← hq4]; exact Blk.new _ _ _)
  have hF1 := Lib.hid (Fb.of_below (b := b) hb1)
  have hA1 := Lib.hid (h.below hb1)
  have hpk := Lib.hid (peek_f hA1.out)
  have hpw := Lib.hid h.ok
  obtain ⟨t, ht⟩ : ∃ t, peekP s st = t := ⟨_, rfl⟩
  have htb := Lib.hid (fun (hk : t.kind ≠ 0) => (show TkB t by rw [← ht] at hk ⊢; exact peek_tkb h.ok hk))
  rw [ht] at hpk
  obtain ⟨m, hm⟩ : ∃ m, (t.kind == 1 && Go.Proofs.YtnhbcmhinhncfaaGreatDoor.W.isName t.text) = m := ⟨_, rfl⟩
  have hne := Lib.hid (fun W (hp : PF b s W st) => need_f hp m)
  obtain ⟨st0, hst0⟩ : ∃ x, needP s m st = x := ⟨_, rfl⟩
  have hok0 := (lo_need h.ok m).ok
  rw [hst0] at hne hok0
  have hnl := Lib.hid (fun W (hp : PF b s W st0) => newlines_f hp)
  have hok1 := (lo_newl hok0).ok
  obtain ⟨st1, hst1⟩ : ∃ x, newl s st0 = x := ⟨_, rfl⟩
  rw [hst1] at hnl hok1
  have htw := Lib.hid (fun W (hp : PF b s W st1) => tookWord_f hp ⟨#[105, 110]⟩)
  rw [show (⟨#[105, 110]⟩ : ByteArray).toList = [105, 110] by kernel_rfl] at htw
  obtain ⟨inn, hinn⟩ : ∃ x, hasW s [105, 110] st1 = x := ⟨_, rfl⟩
  obtain ⟨st2, hst2⟩ : ∃ x, tookP s 1 [105, 110] st1 = x := ⟨_, rfl⟩
  have hok2 := Lib.hid (show PW s st2 by rw [← hst2]; exact (lo_took hok1 1 [105, 110]).ok)
  have hif := Lib.hid (show ∀ W, PF b s W (if hasW s [105, 110] st1 then nextP s st1 else st1) → PF b s W st2 from fun W hp => by
    rw [← hst2]
    unfold tookP
    unfold hasW at hp
    split
    · rename_i e
      rwa [if_pos e] at hp
    · rename_i e
      rw [if_neg e] at hp
      exact hp.fill)
  have hr := Lib.hid (for_is (s := s) B d st st1 st2 t inn ht.symm (by rw [← hst1, ← hst0, ← hm]) hinn.symm hst2.symm)
  rw [hinn] at htw hif
  obtain ⟨R, hR⟩ : ∃ R, (if inn then (fun w : List ByteArray × PS => (w.1, newl s (needP s (hasO s [59] w.2 || (peekP s w.2).kind == 3) w.2))) (wordsP s (rem s st2 + 1) [] st2) else ([], if hasO s [59] st2 then newl s (nextP s st2) else fill s st2)) = R := ⟨_, rfl⟩
  rw [hR] at hr
  obtain ⟨ws, st3⟩ := R
  dsimp only at hr
  have hcd := Lib.hid (fun W (hp : PF b s W st3) => doGroup_f hC hp)
  obtain ⟨A2, hA2'⟩ : ∃ A, doG s B d st3 = A := ⟨_, rfl⟩
  rw [hA2'] at hcd hr
  obtain ⟨n2, st4⟩ := A2
  dsimp only at hcd hr
  rw [hr.out]
  have hRH := Lib.hid hR
  have hmH := Lib.hid hm
  have hWH := Lib.hid hW
  have hq4H := Lib.hid hq4
  have f0 := fld0 t
  clear hW hb1 h hq4 hA2' hr hC hR hm ht hst0 hst1 hst2 hinn hok0 hok1 hi0
  go_enter Tryz.func104, Tryz.ntmps104
  go_upto_region 1 with fail
  rw [hWH.out, hq4H.out]
  go_upto_region 2 with (go_at_call 20; refine hpk.out.mono ?_; rintro e w2 ⟨rfl, hA2, hF2⟩; have hA2H := Lib.hid hA2; have hF2H := Lib.hid hF2; clear hA2 hF2)
  obtain ⟨q5, hq5⟩ : ∃ q, w2.heap.size = q := ⟨_, rfl⟩
  obtain ⟨W3, hW3⟩ : ∃ W, w2.alloc (.cells (tkC t) 58) = W := ⟨_, rfl⟩
  have hb3 : Below w2.heap.size w2 W3 := by rw [← hW3]; exact (Below.refl _ _).alloc (Nat.le_refl _) _
  have hK3 := Lib.hid (show Blk W3 q5 58 (tkC t) by rw [← hW3, ← hq5]; exact Blk.new _ _ _)
  have hA3H := Lib.hid (hA2H.out.below hb3)
  have hF3H := Lib.hid (hF2H.out.trans (Fb.of_below hb3))
  have hfw3 := Lib.hid (hF1.out.trans hF3H.out)
  have hZ3 := Lib.hid (hF3H.out.blk hZ.out hqb2)
  have hq5b : q5 ≠ b := by have := (hF1.out.trans hF2H.out).size; omega
  have k0 : W3.cell? ⟨q5, 0, none⟩ = some (.int .i64 t.kind) := hK3.out.cell 0
  have k1 : W3.cell? ⟨q5, 1, none⟩ = some (.string t.text) := hK3.out.cell 1
  rw [hW3, hq5]
  clear hW3 hb3 hq5 hpk
  obtain ⟨kt, hkt⟩ : ∃ k, t.kind = k := ⟨_, rfl⟩
  have hktH := Lib.hid hkt
  rw [hkt] at k0
  have hne3 := Lib.hid (hne.out _ hA3H.out)
  have hnm := Lib.hid (fun (hk : kt = 1) => Go.Proofs.YtnhbcmhinhncfaaGreatDoor.W.name_any t.text W3 (by have := (htb.out (by rw [hktH.out, hk]; decide)).le; unfold maxLen; omega))
  have h3 : kt = 1 ∨ ¬ kt = 1 := Int.decEq kt 1 |>.em
  go_cut [] (fun wx => Hid (PF b s wx st0 ∧ Fb b W3 wx))
  case first =>
    have hm2 := hmH.out
    rw [hktH.out] at hm2
    rcases h3 with h3 | h3
    · subst h3
      have hm2 : Go.Proofs.YtnhbcmhinhncfaaGreatDoor.W.isName t.text = m := hm2
      have hnm1 := Lib.hid (hnm.out rfl)
      clear hnm
      go_wp2_with (first
        | (go_at_call 22; refine hne3.out.mono ?_; rintro e w4 ⟨rfl, hA4, hF4⟩; have hA4H := Lib.hid hA4; have hF4H := Lib.hid hF4; clear hA4 hF4)
        | (go_at_call 108; refine hnm1.out.mono ?_; rintro e w4 ⟨rfl, rfl⟩; rw [hm2]))
      go_meet
      case rel => exact Lib.hid ⟨hA4H.out, hF4H.out⟩
    · have hm2 : false = m := by rw [← hm2]; simp [h3]
      subst hm2
      clear hnm
      go_wp2_with (go_at_call 22; refine hne3.out.mono ?_; rintro e w4 ⟨rfl, hA4, hF4⟩; have hA4H := Lib.hid hA4; have hF4H := Lib.hid hF4; clear hA4 hF4)
      go_meet
      case rel => exact Lib.hid ⟨hA4H.out, hF4H.out⟩
  case rest =>
    have hpc := Lib.hid hcut.out.1
    have hfc := Lib.hid (hfw3.out.trans hcut.out.2)
    have hZc := Lib.hid (hcut.out.2.blk hZ3.out hqb2)
    have hKc := Lib.hid (hcut.out.2.blk hK3.out hq5b)
    clear hcut hne3 hnm hne k0 k1
    have k1 : wc.cell? ⟨q5, 1, none⟩ = some (.string t.text) := hKc.out.cell 1
    go_upto_region 4 with fail
    obtain ⟨q6, hq6⟩ : ∃ q, wc.heap.size = q := ⟨_, rfl⟩
    obtain ⟨W5, hW5⟩ : ∃ W, wc.alloc (.cells #[.int .i64 12, .bool false, .bool false, .string t.text, .slice none 0 0, .slice none 0 0, .slice none 0 0] 30) = W := ⟨_, rfl⟩
    have hb5 : Below wc.heap.size wc W5 := by rw [← hW5]; exact (Below.refl _ _).alloc (Nat.le_refl _) _
    have hN5 := Lib.hid (show Blk W5 q6 30 #[.int .i64 12, .bool false, .bool false, .string t.text, .slice none 0 0, .slice none 0 0, .slice none 0 0] by rw [← hW5, ← hq6]; exact Blk.new _ _ _)
    have hq6b : q6 ≠ b := by have := hfc.out.size; omega
    have hq616 : 8 ≤ q6 := by have := hfc.out.size; omega
    have hqw6 : w.heap.size ≤ q6 := by have := hfc.out.size; omega
    have hq46 : ¬ q4 = q6 := by have := hZc.out.lt; omega
    have hnl5 := Lib.hid (hnl.out _ (hpc.out.below hb5))
    have hf5 := Lib.hid (hfc.out.trans (Fb.of_below hb5))
    have hZ5 := Lib.hid ((Fb.of_below (b := b) hb5).blk hZc.out hqb2)
    rw [hW5, hq6]
    clear hW5 hq6 hb5 hnl k1
    go_upto_region 5 with (go_at_call 19; refine hnl5.out.mono ?_; rintro e w6 ⟨rfl, hA6, hF6⟩; have hA6H := Lib.hid hA6; have hF6H := Lib.hid hF6; clear hA6 hF6)
    have htw6 := Lib.hid (htw.out _ hA6H.out)
    have hZ6 := Lib.hid (hF6H.out.blk hZ5.out hqb2)
    have hN6 := Lib.hid (hF6H.out.blk hN5.out hq6b)
    have hf6 := Lib.hid (hf5.out.trans hF6H.out)
    clear htw
    go_upto_region 6 with (go_at_call 100; refine htw6.out.mono ?_; rintro e w7 ⟨rfl, hA7, hF7⟩; have hA7H := Lib.hid (hif.out _ hA7); have hF7H := Lib.hid hF7; have hN7 := Lib.hid (hF7.blk hN6.out hq6b); have n2 : w7.cell? ⟨q6, 2, none⟩ = some (.bool false) := hN7.out.cell 2; have r2 := hN7.out.frozen 2; clear hA7 hF7)
    obtain ⟨W8, hW8⟩ : ∃ W, w7.setCell ⟨q6, 2, none⟩ (.bool inn) = W := ⟨_, rfl⟩
    have hA8 := Lib.hid (show PF b s W8 st2 by rw [← hW8]; exact hA7H.out.write hN7.out (by decide) hq6b hq616)
    have hf8 := Lib.hid (show Fb b w W8 by rw [← hW8]; exact (hf6.out.trans hF7H.out).new_ hqw6 _ _)
    have hZ8 := Lib.hid (show Blk W8 q4 30 N7 by rw [← hW8]; exact (hF7H.out.blk hZ6.out hqb2).far hq46 _)
    have hN8 := Lib.hid (show Blk W8 q6 30 #[.int .i64 12, .bool false, .bool inn, .string t.text, .slice none 0 0, .slice none 0 0, .slice none 0 0] by rw [← hW8]; exact hN7.out.set_ 2 _)
    rw [hW8]
    have m2 : W8.cell? ⟨q6, 2, none⟩ = some (.bool inn) := hN8.out.cell 2
    clear hW8 n2 r2 htw6 hif
    go_upto_if 28 with fail
    go_cut [] (fun wx => Hid (∃ (a : Option Addr) (n' c' : Nat), PF b s wx st3 ∧ Fb b w wx ∧ Blk wx q4 30 N7 ∧ NdB q6 w.heap.size 12 false inn t.text ws [] [] (.slice a n' c') (.slice none 0 0) (.slice none 0 0) (fun _ => False) wx ∧ (Value.slice a n' c').ownBlock ≠ some q4))
    case first =>
      cases inn
      · obtain ⟨rfl, h3⟩ : [] = ws ∧ (if hasO s [59] st2 = true then newl s (nextP s st2) else fill s st2) = st3 := by simpa using hRH.out
        have htk := took_f hA8.out ⟨#[59]⟩
        rw [show (⟨#[59]⟩ : ByteArray).toList = [59] by kernel_rfl] at htk
        obtain ⟨o, ho⟩ : ∃ o, hasO s [59] st2 = o := ⟨_, rfl⟩
        rw [ho] at htk h3
        have htkH := Lib.hid htk
        have hnd8 := Lib.hid (NdB.new_ w.heap.size hN8.out)
        clear htk ho hktH
        cases o
        · subst h3
          go_wp2_with (go_at_call 45; refine htkH.out.mono ?_; rintro e w9 ⟨rfl, hA9, hF9⟩; have hA9H := Lib.hid hA9; have hF9H := Lib.hid hF9; clear hA9 hF9)
          go_meet
          case rel => exact Lib.hid ⟨none, 0, 0, PF.fill hA9H.out, hf8.out.trans hF9H.out, hF9H.out.blk hZ8.out hqb2, hnd8.out.keep hF9H.out hlt hq6b, by simp [Value.ownBlock]⟩
        · subst h3
          go_wp2_with (first
            | (go_at_call 19; refine (newlines_f hA9H.out).mono ?_; rintro e w10 ⟨rfl, hA10, hF10⟩; have hA10H := Lib.hid hA10; have hF10H := Lib.hid (hF9H.out.trans hF10); clear hA10 hF10)
            | (go_at_call 45; refine htkH.out.mono ?_; rintro e w9 ⟨rfl, hA9, hF9⟩; have hA9H := Lib.hid (show PF b s w9 (nextP s st2) from hA9); have hF9H := Lib.hid hF9; clear hA9 hF9))
          go_meet
          case rel => exact Lib.hid ⟨none, 0, 0, hA10H.out, hf8.out.trans hF10H.out, hF10H.out.blk hZ8.out hqb2, hnd8.out.keep hF10H.out hlt hq6b, by simp [Value.ownBlock]⟩
      · obtain ⟨A, hA⟩ : ∃ A, wordsP s (rem s st2 + 1) [] st2 = A := ⟨_, rfl⟩
        have hR2 := hRH.out
        rw [hA] at hR2
        obtain ⟨wsA, stA⟩ := A
        obtain ⟨rfl, h3⟩ : wsA = ws ∧ newl s (needP s (hasO s [59] stA || (peekP s stA).kind == 3) stA) = st3 := by simpa using hR2
        have hst := Lib.hid (show FoI b q4 q6 s w (wsA, stA) t.text st2 [] (rem s st2 + 1) W8 from ⟨hA8.out, hf8.out, hZ8.out, ⟨none, 0, NdB.new_ _ hN8.out, by simp [Value.ownBlock]⟩, hA.symm, Nat.lt_succ_self _, by have := rem_bd hok2.out; show 0 + rem s st2 ≤ 140001; omega⟩)
        have h3H := Lib.hid h3
        clear hR2 hRH hA h3 hktH hA8 hf8 hZ8 hN8 m2
        go_wp2_with fail
        go_loopg [29] (rem s st2) (fun g _ wr => ∃ (st5 : PS) (l : List ByteArray) (f : Nat), g = rem s st5 ∧ Hid (FoI b q4 q6 s w (wsA, stA) t.text st5 l f wr))
        case atStart => exact ⟨st2, [], _, rfl, hst⟩
        case round =>
          clear hst
          obtain ⟨st5, l, f, hg, hI⟩ := hrel
          obtain ⟨f, rfl⟩ : ∃ f', f = f' + 1 := ⟨f - 1, by have := hI.out.lf; omega⟩
          have hpf := hI.out.pf
          have hpk5 := Lib.hid (peek_f hpf)
          have han := hI.out.an
          rw [show wordsP s (f + 1) l st5 = if (peekP s st5).kind = 1 then wordsP s f (l ++ [(peekP s st5).text]) (nextP s st5) else (l, fill s st5) from rfl] at han
          have hnx := Lib.hid (fun W (hp : PF b s W st5) => next_f hp)
          have hless : (peekP s st5).kind = 1 → rem s (nextP s st5) < rem s st5 := fun e => rem_taken hpf.ok (by rw [e]; decide)
          obtain ⟨u, hu⟩ : ∃ u, peekP s st5 = u := ⟨_, rfl⟩
          rw [hu] at hpk5 han hless hnx
          have e0 := fldk
          have e1 := fldx
          have hlnH := Lib.hid hI.out.ln
          have hlfH := Lib.hid hI.out.lf
          obtain ⟨a5, k5, hN5', ho5⟩ := hI.out.nd
          have hNH := Lib.hid hN5'
          have ho5H := Lib.hid ho5
          have hpfH := Lib.hid hpf
          have hgH := Lib.hid hg
          have huH := Lib.hid hu
          clear hpf hN5' ho5 hg hu
          have h3 : u.kind = 1 ∨ ¬ u.kind = 1 := Int.decEq u.kind 1 |>.em
          rcases h3 with h3 | h3
          · rw [if_pos h3] at han
            have hless := Lib.hid (hless h3)
            have hanH := Lib.hid han
            clear han
            go_upto_region 8 with (go_at_call 20; refine hpk5.out.mono ?_; rintro e w9 ⟨rfl, hA9, hF9⟩; have hA9H := Lib.hid hA9; have hF9H := Lib.hid hF9; clear hA9 hF9; dsimp only [tkV])
            have hN9 := Lib.hid (hNH.out.keep hF9H.out hlt hq6b)
            have hZ9 := Lib.hid (hF9H.out.blk hI.out.z hqb2)
            have hf9 := Lib.hid (hI.out.fb.trans hF9H.out)
            have hnx9 := Lib.hid (hnx.out w9.drew (hA9H.out.below (below_drew (Below.refl _ _) 1)))
            have y4 : w9.drew.cell? ⟨q6, 4, none⟩ = some (.slice a5 l.length k5) := hN9.out.blk.cell 4
            have hq49 : q4 < w9.heap.size := hZ9.out.lt
            clear hnx hpk5 hpfH
            go_region_law (first
              | (refine step_app rfl (.tmp 34) (.tmp 38) 27 rfl w.heap.size 9 i0 _ 1 16 Tryz.underlying27 hi0H.out hz0 hz1 hz2 rfl (by decide) (.slice a5 l.length k5) l.length (flat K5 l.length) (by rfl) hown5H.out (some ⟨w10.heap.size, 0, none⟩) 1 1 [.string u.text] (by rfl) (by rfl) (src_blk (Blk.new w10 _ _)) (by intro v hv; simp at hv; rw [hv]; rfl) (by have := hlnH.out; omega) (by have := hlnH.out; omega) (by rw [World.size_alloc]; have := hf10.out.size; omega) ?_; intro a6 k6 w6 hown6 hg6 ho6; have hB7 : Blk w6 q6 30 #[.int .i64 12, .bool false, .bool true, .string t.text, .slice a5 l.length k5, .slice none 0 0, .slice none 0 0] := (hg6.block q6 hN11.out.blk.lt (fun e => hN11.out.qw e.symm)).trans hN11.out.blk; have hB7H := Lib.hid hB7; have u4 : w6.cell? ⟨q6, 4, none⟩ = some (.slice a5 l.length k5) := hB7.cell 4; have v4 := hB7.frozen 4; have hown6H := Lib.hid hown6; have hg6H := Lib.hid hg6; have ho6H := Lib.hid ho6; clear hB7 hown6 hg6 ho6)
              | (go_simp; go_at_call 27; refine hnx9.out.mono ?_; rintro e w10 ⟨rfl, hA10, hF10⟩; have hA10H := Lib.hid hA10; have hF10H := Lib.hid (((Fb.refl b w9).drewN 1).trans hF10); have hf10 := Lib.hid (hf9.out.trans hF10H.out); have hN10 := hN9.out.keep hF10H.out hlt hq6b; have x4 : w10.cell? ⟨q6, 4, none⟩ = some (.slice a5 l.length k5) := hN10.blk.cell 4; have hb11 : Below w10.heap.size w10 (w10.alloc (.cells #[.string u.text] 9)) := (Below.refl _ _).alloc (Nat.le_refl _) _; have hN11 := Lib.hid (hN10.keep (Fb.of_below (b := b) hb11) hlt hq6b); have x4a : (w10.alloc (.cells #[.string u.text] 9)).cell? ⟨q6, 4, none⟩ = some (.slice a5 l.length k5) := hN11.out.blk.cell 4; have l6 : q6 < w10.heap.size := hN10.blk.lt; have hb11H := Lib.hid hb11; obtain ⟨K5, hown5, hat5⟩ := hN11.out.rw_.row; have hown5H := Lib.hid hown5; have hat5H := Lib.hid hat5; clear hA10 hF10 hN10 hb11 hown5 hat5; dsimp only [tkV]))
            all_goals
              go_wp2_with fail
              go_roundg (rem s (nextP s st5))
              case measure => rw [hgH.out]; exact hless.out
              case rel =>
                obtain ⟨k1, k2, k3⟩ := app_words (ys := [u.text]) (L := fun _ => [.string u.text]) (K := K5) hN11.out (hA10H.out.below hb11H.out) (hf10.out.trans (Fb.of_below hb11H.out)) hlt hq6b hq616 hqw6 hown6H.out hat5H.out rfl (fun j v hj => by
                  cases j with
                  | zero =>
                    obtain rfl : u.text = v := by simpa using hj
                    rfl
                  | succ j => simp at hj) hg6H.out ho6H.out (fun g e => (hN11.out.rw_.own_lt e).1)
                refine ⟨nextP s st5, l ++ [u.text], f, rfl, Lib.hid ⟨k2, k3, ?_, ⟨a6, k6, by rw [List.length_append]; exact k1, fun e => ?_⟩, hanH.out, by have := hless.out; have := hlfH.out; omega, by have := hless.out; have := hlnH.out; rw [List.length_append]; show l.length + 1 + _ ≤ _; omega⟩⟩
                · exact (Below.heap_setCell _ _ _ _ hq46).trans ((hg6H.out.block q4 (by have := (hF10H.out.trans (Fb.of_below (b := b) hb11H.out)).size; omega) (fun e => ho5H.out e.symm)).trans ((hF10H.out.trans (Fb.of_below hb11H.out)).blk hZ9.out hqb2))
                · rw [List.length_append] at e
                  rcases ho6H.out with h6 | h6
                  · exact ho5H.out (h6.symm.trans e)
                  · have h7 := Option.some.inj (h6.symm.trans e)
                    have h8 := (hF10H.out.trans (Fb.of_below (b := b) hb11H.out)).size
                    omega
          · rw [if_neg h3] at han
            obtain ⟨rfl, rfl⟩ : wsA = l ∧ stA = fill s st5 := by simpa using han
            have hpff := Lib.hid (fun W (hp : PF b s W st5) => hp.fill)
            obtain ⟨stF, hstF⟩ : ∃ x, fill s st5 = x := ⟨_, rfl⟩
            rw [hstF] at h3H hpff
            have hio := Lib.hid (fun W (hp : PF b s W stF) => isOp_f hp ⟨#[59]⟩)
            rw [show (⟨#[59]⟩ : ByteArray).toList = [59] by kernel_rfl] at hio
            have hpk6 := Lib.hid (fun W (hp : PF b s W stF) => peek_f hp)
            obtain ⟨v, hv⟩ : ∃ v, peekP s stF = v := ⟨_, rfl⟩
            obtain ⟨o, ho⟩ : ∃ o, hasO s [59] stF = o := ⟨_, rfl⟩
            rw [hv, ho] at h3H
            rw [hv] at hpk6
            rw [ho] at hio
            obtain ⟨mm, hmm⟩ : ∃ m, (o || v.kind == 3) = m := ⟨_, rfl⟩
            rw [hmm] at h3H
            have hne6 := Lib.hid (fun W (hp : PF b s W stF) => need_f hp mm)
            obtain ⟨st6, hst6⟩ : ∃ x, needP s mm stF = x := ⟨_, rfl⟩
            rw [hst6] at h3H hne6
            have hnl6 := Lib.hid (fun W (hp : PF b s W st6) => newlines_f hp)
            rw [h3H.out] at hnl6
            clear han hst6 hstF hv ho hnx
            go_upto_region 9 with (go_at_call 20; refine hpk5.out.mono ?_; rintro e w9 ⟨rfl, hA9, hF9⟩; have hA9H := Lib.hid (hpff.out _ hA9); have hF9H := Lib.hid hF9; clear hA9 hF9; dsimp only [tkV])
            have hio9 := Lib.hid (hio.out _ hA9H.out)
            clear hpk5 hio
            have hfin : Hid (∀ w12, Fb b w9 w12 → PF b s w12 st3 → ∃ (a : Option Addr) (n' c' : Nat), PF b s w12 st3 ∧ Fb b w w12 ∧ Blk w12 q4 30 N7 ∧ NdB q6 w.heap.size 12 false true t.text wsA [] [] (.slice a n' c') (.slice none 0 0) (.slice none 0 0) (fun _ => False) w12 ∧ (Value.slice a n' c').ownBlock ≠ some q4) := Lib.hid (fun w12 hf hp => ⟨a5, wsA.length, k5, hp, (hI.out.fb.trans hF9H.out).trans hf, (hF9H.out.trans hf).blk hI.out.z hqb2, hNH.out.keep (hF9H.out.trans hf) hlt hq6b, ho5H.out⟩)
            clear hI hNH ho5H hZ hZ3 hZc hZ5 hZ6 hN5 hN6 hN7
            cases o
            · cases hv3 : (v.kind == 3)
              rotate_left
              · obtain rfl : true = mm := by rw [← hmm, hv3]; rfl
                clear hmm
                go_upto_region 10 with (first
                  | (go_at_call 22; refine (hne6.out _ hA11.out).mono ?_; rintro e w12 ⟨rfl, hA, hF⟩; have hA12 := Lib.hid hA; have hF12 := Lib.hid (hF11.out.trans hF); clear hA hF)
                  | (go_at_call 20; refine (hpk6.out _ hA10.out).mono ?_; rintro e w11 ⟨rfl, hA, hF⟩; have hA11 := Lib.hid hA; have hF11 := Lib.hid (hF10.out.trans hF); clear hA hF; dsimp only [tkV])
                  | (go_at_call 61; refine hio9.out.mono ?_; rintro e w10 ⟨rfl, hA, hF⟩; have hA10 := Lib.hid hA; have hF10 := Lib.hid hF; clear hA hF))
                go_wp2_with (go_at_call 19; refine (hnl6.out _ hA12.out).mono ?_; rintro e w13 ⟨rfl, hA, hF⟩; have hA13 := Lib.hid hA; have hF13 := Lib.hid (hF12.out.trans hF); clear hA hF)
                go_meet
                case rel => exact Lib.hid (hfin.out _ hF13.out hA13.out)
              · obtain rfl : false = mm := by rw [← hmm, hv3]; rfl
                clear hmm
                go_upto_region 10 with (first
                  | (go_at_call 22; refine (hne6.out _ hA11.out).mono ?_; rintro e w12 ⟨rfl, hA, hF⟩; have hA12 := Lib.hid hA; have hF12 := Lib.hid (hF11.out.trans hF); clear hA hF)
                  | (go_at_call 20; refine (hpk6.out _ hA10.out).mono ?_; rintro e w11 ⟨rfl, hA, hF⟩; have hA11 := Lib.hid hA; have hF11 := Lib.hid (hF10.out.trans hF); clear hA hF; dsimp only [tkV])
                  | (go_at_call 61; refine hio9.out.mono ?_; rintro e w10 ⟨rfl, hA, hF⟩; have hA10 := Lib.hid hA; have hF10 := Lib.hid hF; clear hA hF))
                go_wp2_with (go_at_call 19; refine (hnl6.out _ hA12.out).mono ?_; rintro e w13 ⟨rfl, hA, hF⟩; have hA13 := Lib.hid hA; have hF13 := Lib.hid (hF12.out.trans hF); clear hA hF)
                go_meet
                case rel => exact Lib.hid (hfin.out _ hF13.out hA13.out)
            · obtain rfl : true = mm := by rw [← hmm]; rfl
              clear hmm
              go_upto_region 10 with (first
                | (go_at_call 22; refine (hne6.out _ hA10.out).mono ?_; rintro e w12 ⟨rfl, hA, hF⟩; have hA12 := Lib.hid hA; have hF12 := Lib.hid (hF10.out.trans hF); clear hA hF)
                | (go_at_call 61; refine hio9.out.mono ?_; rintro e w10 ⟨rfl, hA, hF⟩; have hA10 := Lib.hid hA; have hF10 := Lib.hid hF; clear hA hF))
              go_wp2_with (go_at_call 19; refine (hnl6.out _ hA12.out).mono ?_; rintro e w13 ⟨rfl, hA, hF⟩; have hA13 := Lib.hid hA; have hF13 := Lib.hid (hF12.out.trans hF); clear hA hF)
              go_meet
              case rel => exact Lib.hid (hfin.out _ hF13.out hA13.out)
    case rest =>
      obtain ⟨a8, n8, k8, hp8, hff8, hz8, hn8, ho8⟩ := hcut.out
      have hff8H := Lib.hid hff8
      have hz8d := Lib.hid (hz8)
      have hn8H := Lib.hid hn8
      have ho8H := Lib.hid ho8
      have hdc := Lib.hid (hcd.out wc hp8)
      clear hcut hp8 hff8 hz8 hn8 ho8 hcd m2
      go_upto_region 14 with (go_at_call 119; refine hdc.out.mono ?_; rintro e w9 ⟨k, x, y, nm, aw, nw, cw, ar, nr, cr, ak, nk, ck, T, rfl, hN, hT, hA9, hF9⟩; have hN9 := Lib.hid hN; have hT9 := Lib.hid hT; have hA9H := Lib.hid hA9; have hF9H := Lib.hid hF9; have hn9 := Lib.hid (hn8H.out.keep hF9 hlt hq6b); have v6 : w9.cell? ⟨q6, 6, none⟩ = some (.slice none 0 0) := hn9.out.blk.cell 6; have r6 := hn9.out.blk.frozen 6; have l6 : q6 < w9.heap.size := hn9.out.blk.lt; clear hN hT hA9 hF9)
      have hff9 := hff8H.out.trans hF9H.out
      have hwz := hff8H.out.size
      have hT2 : ∀ g, T g → w.heap.size ≤ g ∧ g < w9.heap.size ∧ g ≠ q6 ∧ Value.ownBlock (.slice a8 n8 k8) ≠ some g ∧ Value.ownBlock (.slice none 0 0) ≠ some g := fun g hg => ⟨Nat.le_trans hwz (hT9.out g hg).1, (hT9.out g hg).2, fun e => by have h1 := (hT9.out g hg).1; have := hn8H.out.blk.lt; omega, fun e => by have h1 := (hT9.out g hg).1; have := (hn8H.out.rw_.own_lt e).2; omega, by simp [Value.ownBlock]⟩
      have hk1 := hn9.out.kid1 hN9.out hT2 hff9.size
      have hp10 := (hA9H.out.write (i := 6) (u := .slice (some ⟨w9.heap.size, 0, none⟩) 1 1) hn9.out.blk (by decide) hq6b hq616)
      have hf10 := hff9.new_ hqw6 6 (.slice (some ⟨w9.heap.size, 0, none⟩) 1 1)
      have hz10 : Blk (w9.setCell ⟨q6, 6, none⟩ (.slice (some ⟨w9.heap.size, 0, none⟩) 1 1)) q4 30 N7 := (hF9H.out.blk hz8d.out hqb2).far hq46 _
      obtain ⟨W10, hW10⟩ : ∃ W, w9.setCell ⟨q6, 6, none⟩ (.slice (some ⟨w9.heap.size, 0, none⟩) 1 1) = W := ⟨_, rfl⟩
      have hs10 : W10.heap.size = w9.heap.size := by rw [← hW10]; exact World.size_setCell _ _ _
      rw [hW10] at hk1 hp10 hf10 hz10
      rw [hW10]
      have hb11 : Below W10.heap.size W10 (W10.alloc (.cells #[.int .i64 k, .bool x, .bool y, .string nm, .slice aw nw cw, .slice ar nr cr, .slice ak nk ck] 30)) := (Below.refl _ _).alloc (Nat.le_refl _) _
      obtain ⟨W11, hW11⟩ : ∃ W, W10.alloc (.cells #[.int .i64 k, .bool x, .bool y, .string nm, .slice aw nw cw, .slice ar nr cr, .slice ak nk ck] 30) = W := ⟨_, rfl⟩
      rw [hW11] at hb11 hk1
      rw [hW11]
      have hp11 := Lib.hid (hp10.below hb11)
      have hf11 := Lib.hid (hf10.trans (Fb.of_below hb11))
      have hz11 := Lib.hid ((Fb.of_below (b := b) hb11).blk hz10 hqb2)
      have hk1H := Lib.hid hk1
      have hq49 : q4 < w9.heap.size := by have := hz10.lt; omega
      have hT4 : ¬ T q4 := fun e => by have h1 := (hT9.out q4 e).1; have := hz8d.out.lt; omega
      have d0 : W11.cell? ⟨q6, 0, none⟩ = some (.int .i64 12) := hk1.blk.cell 0
      have d1 : W11.cell? ⟨q6, 1, none⟩ = some (.bool false) := hk1.blk.cell 1
      have d2 : W11.cell? ⟨q6, 2, none⟩ = some (.bool inn) := hk1.blk.cell 2
      have d3 : W11.cell? ⟨q6, 3, none⟩ = some (.string t.text) := hk1.blk.cell 3
      have d4 : W11.cell? ⟨q6, 4, none⟩ = some (.slice a8 n8 k8) := hk1.blk.cell 4
      have d5 : W11.cell? ⟨q6, 5, none⟩ = some (.slice none 0 0) := hk1.blk.cell 5
      have d6 : W11.cell? ⟨q6, 6, none⟩ = some (.slice (some ⟨w9.heap.size, 0, none⟩) 1 1) := hk1.blk.cell 6
      have z0 : W11.cell? ⟨q4, 0, none⟩ = some (.int .i64 0) := hz11.out.cell 0
      have z1 : W11.cell? ⟨q4, 1, none⟩ = some (.bool false) := hz11.out.cell 1
      have z2 : W11.cell? ⟨q4, 2, none⟩ = some (.bool false) := hz11.out.cell 2
      have z3 : W11.cell? ⟨q4, 3, none⟩ = some (.string ⟨#[]⟩) := hz11.out.cell 3
      have z4 : W11.cell? ⟨q4, 4, none⟩ = some (.slice none 0 0) := hz11.out.cell 4
      have z5 : W11.cell? ⟨q4, 5, none⟩ = some (.slice none 0 0) := hz11.out.cell 5
      have z6 : W11.cell? ⟨q4, 6, none⟩ = some (.slice none 0 0) := hz11.out.cell 6
      have f0 := hz11.out.frozen 0
      have f1 := hz11.out.frozen 1
      have f2 := hz11.out.frozen 2
      have f3 := hz11.out.frozen 3
      have f4 := hz11.out.frozen 4
      have f5 := hz11.out.frozen 5
      have f6 := hz11.out.frozen 6
      clear hk1 hp10 hf10 hz10 hW10 hs10 hb11 hW11 v6 r6 l6 hT2
      go_wp2_with fail
      refine bodyPost_ret (results_cell_row rfl _ _ q4 30 #[.int .i64 12, .bool false, .bool inn, .string t.text, .slice a8 n8 k8, .slice none 0 0, .slice (some ⟨w9.heap.size, 0, none⟩) 1 1] (0, 0) _ rfl (put7_blk hz11.out _ _ _ _ _ _ _) Tryz.underlying30 rfl (by kernel_rfl)) rfl ?_
      have h9 := NdB.hd (b := b) (w := w) hk1H.out
      exact h9.1.an hz11.out (h9.2.2 _ (fun e => e.elim id hT4) ho8H.out (by simp [Value.ownBlock]) (fun e => by have h1 := Option.some.inj e; dsimp only at h1; omega)) (Nat.le_of_eq hq4H.out) hqb2 hq16 hp11.out hf11.out
end
end Go.Proofs.YtnhbcmhinhncfaaGreatDoor
/- A case. Conditions: the parser lies as stated; a body's contract is handed in. -/
namespace Go.Proofs.YtnhbcmhinhncfaaGreatDoor
open Go.RowKit Go.Shelf Go.PlainAid
set_option linter.unusedVariables false
set_option linter.unusedSimpArgs false
attribute [local go_sem] Oper.semAt_some
theorem flat_all {K : Nat → List Value} {P : Value → Prop} : ∀ n, (∀ i, i < n → ∀ u ∈ K i, P u) → ∀ u ∈ flat K n, P u
  | 0, _, u, hu => by simp [flat] at hu
  | n + 1, h, u, hu => by
    rcases List.mem_append.1 (show u ∈ flat K n ++ K n from hu) with hu | hu
    · exact flat_all n (fun i hi => h i (by omega)) u hu
    · exact h n (Nat.lt_succ_self n) u hu
section
variable {b : Nat} {s : ByteArray} {w : World} {st : PS} {B : Int → PS → Nd × PS} {d : Int}
theorem serP_rem {X : Type} {R : PS → X × PS} {M : X → PS → Bool × PS} (hl : ∀ st, PW s st → Lo s st (M (R st).1 (R st).2).2) (hd : ∀ st, PW s st → (M (R st).1 (R st).2).1 = true → rem s (M (R st).1 (R st).2).2 < rem s st) : ∀ (f : Nat) (st : PS), PW s st → (serP R M f st).1.length + rem s (serP R M f st).2 ≤ rem s st + 1
  | 0, st, _ => by show 0 + rem s st ≤ _; omega
  | f + 1, st, h => by
    unfold serP
    split
    · rename_i hm
      have h1 := hd st h hm
      have h2 := serP_rem hl hd f _ (hl st h).ok
      show (serP R M f (M (R st).1 (R st).2).2).1.length + 1 + rem s (serP R M f (M (R st).1 (R st).2).2).2 ≤ _
      omega
    · have h1 := (hl st h).le
      show 1 + rem s (M (R st).1 (R st).2).2 ≤ _
      omega
theorem pats_len (h : PW s st) : (patsP s st).1.length + rem s (patsP s st).2 ≤ rem s st + 2 := by
  have h1 := lo_took h 2 [40]
  have h2 := serP_rem (R := patR s) (M := fun _ st => (hasO s [124] st, tookP s 2 [124] st)) (fun st hp => pat_more hp _) (fun st hp hm => pat_less hp _ hm) (rem s (tookP s 2 [40] st) + 1) _ h1.ok
  have h3 := lo_ser (R := patR s) (M := fun _ st => (hasO s [124] st, tookP s 2 [124] st)) (fun st hp => pat_more hp _) h1.ok
  have h4 := (lo_need h3.ok (hasO s [41] (ser s (patR s) (fun _ st => (hasO s [124] st, tookP s 2 [124] st)) (tookP s 2 [40] st)).2)).le
  have h5 := h1.le
  have h6 : (ser s (patR s) (fun _ st => (hasO s [124] st, tookP s 2 [124] st)) (tookP s 2 [40] st)).1.length + rem s (ser s (patR s) (fun _ st => (hasO s [124] st, tookP s 2 [124] st)) (tookP s 2 [40] st)).2 ≤ rem s (tookP s 2 [40] st) + 1 := h2
  show ((ser s (patR s) (fun _ st => (hasO s [124] st, tookP s 2 [124] st)) (tookP s 2 [40] st)).1 ++ [(⟨#[41]⟩ : ByteArray)]).length + rem s (needP s (hasO s [41] (ser s (patR s) (fun _ st => (hasO s [124] st, tookP s 2 [124] st)) (tookP s 2 [40] st)).2) (ser s (patR s) (fun _ st => (hasO s [124] st, tookP s 2 [124] st)) (tookP s 2 [40] st)).2) ≤ _
  rw [List.length_append]
  show _ + 1 + _ ≤ _
  omega
/-- What holds at the head of the loop. -/
structure CsI (b q4 q5 : Nat) (s : ByteArray) (w : World) (A : List ByteArray × List Nd × PS) (B : Int → PS → Nd × PS) (d : Int) (name : ByteArray) (st0 : PS) (ws : List ByteArray) (ks : List Nd) (f : Nat) (W : World) : Prop where
  pf : PF b s W st0
  fb : Fb b w W
  z : Blk W q4 30 N7
  nd : ∃ (a : Option Addr) (c : Nat) (a2 : Option Addr) (c2 : Nat) (T : Nat → Prop), NdB q5 w.heap.size 13 false false name ws [] ks (.slice a ws.length c) (.slice none 0 0) (.slice a2 ks.length c2) T W ∧ ¬ T q4 ∧ (Value.slice a ws.length c).ownBlock ≠ some q4 ∧ (Value.slice a2 ks.length c2).ownBlock ≠ some q4
  an : A = itemsP s B d f ws ks st0
  lf : rem s st0 < f
  ln : ws.length + 3 * rem s st0 ≤ 420000
  kn : ks.length + rem s st0 ≤ 140001
theorem items_is (f : Nat) (ws : List ByteArray) (ks : List Nd) (st : PS) : itemsP s B d (f + 1) ws ks st = if (peekP s st).kind ≠ 0 ∧ hasW s [101, 115, 97, 99] st = false then
      (if hasO s [59, 59] (itemP s B d (patsP s (fill s st)).2).2 then itemsP s B d f (ws ++ (patsP s (fill s st)).1) (ks ++ [(itemP s B d (patsP s (fill s st)).2).1]) (newl s (nextP s (itemP s B d (patsP s (fill s st)).2).2)) else (ws ++ (patsP s (fill s st)).1, ks ++ [(itemP s B d (patsP s (fill s st)).2).1], fill s (itemP s B d (patsP s (fill s st)).2).2)) else (ws, ks, fill s st) := rfl
set_option maxRecDepth 100000 in
set_option maxHeartbeats 8000000 in
theorem cases_f (hB : ∀ (d : Int) (st : PS), PW s st → Lo s st (B d st).2) (hC : BodyC s B d) (h : PF b s w st) : Calls Tryz.prog 105 #[ptr b, .int .i64 d] w (NdAn b s w (caseP s B d st).1 (caseP s B d st).2) := by
  obtain ⟨i0, hi0, hz0, hz1, hz2⟩ := info_parts infoSt
  have hi0H := Lib.hid hi0
  obtain ⟨i1, hi1, hy0, hy1, hy2⟩ := info_parts infoNd
  have hi1H := Lib.hid hi1
  obtain ⟨q4, hq4⟩ : ∃ x, w.heap.size = x := ⟨_, rfl⟩
  obtain ⟨q5, hq5⟩ : ∃ x, w.heap.size + 1 = x := ⟨_, rfl⟩
  have hlt := h.lt
  have h16 := h.b16
  have hqb2 : q4 ≠ b := by omega
  have hqb5 : q5 ≠ b := by omega
  have hq16 : 8 ≤ q4 := by omega
  have hq516 : 8 ≤ q5 := by omega
  have hq45 : ¬ q4 = q5 := by omega
  have hqw5 : w.heap.size ≤ q5 := by omega
  obtain ⟨W, hW⟩ : ∃ W, w.alloc (.cells N7 30) = W := ⟨_, rfl⟩
  have e5 : W.heap.size = q5 := by rw [← hW, World.size_alloc, hq5]
  obtain ⟨W1, hW1⟩ : ∃ W1, W.alloc (.cells #[.int .i64 13, .bool false, .bool false, .string ⟨#[]⟩, .slice none 0 0, .slice none 0 0, .slice none 0 0] 30) = W1 := ⟨_, rfl⟩
  have hb1 : Below w.heap.size w W1 := by rw [← hW1, ← hW]; exact ((Below.refl _ _).alloc (Nat.le_refl _) _).alloc (by rw [World.size_alloc]; omega) _
  have hZ := Lib.hid (show Blk W1 q4 30 N7 by rw [← hW1, ← hW, ← hq4]; exact (Blk.new _ _ _).alloc _)
  have hB5 := Lib.hid (show Blk W1 q5 30 #[.int .i64 13, .bool false, .bool false, .string ⟨#[]⟩, .slice none 0 0, .slice none 0 0, .slice none 0 0] by rw [← hW1, ← e5]; exact Blk.new _ _ _)
  have hA1 := Lib.hid (h.below hb1)
  have hF1 := Lib.hid (Fb.of_below (b := b) hb1)
  have hWH := Lib.hid hW
  have hW1H := Lib.hid hW1
  have hq4H := Lib.hid hq4
  have e5H := Lib.hid e5
  have hpk := Lib.hid (peek_f hA1.out)
  obtain ⟨t, ht⟩ : ∃ t, peekP s st = t := ⟨_, rfl⟩
  have hr := Lib.hid (show caseP s B d st = (fun st2 => (fun r : List ByteArray × List Nd × PS => ((.mk 13 false false (needT s ((peekP s st).kind == 1) st).text r.1 [] r.2.1 : Nd), needP s (hasW s [101, 115, 97, 99] r.2.2) r.2.2)) (itemsP s B d (rem s st2 + 1) [] [] st2)) (newl s (needP s (hasW s [105, 110] (newl s (needP s ((peekP s st).kind == 1) st))) (newl s (needP s ((peekP s st).kind == 1) st)))) from rfl)
  rw [ht] at hpk hr
  obtain ⟨m, hm⟩ : ∃ m, (t.kind == 1) = m := ⟨_, rfl⟩
  rw [hm] at hr
  have hne := Lib.hid (fun W (hp : PF b s W st) => need_f hp m)
  obtain ⟨u, hu⟩ : ∃ u, needT s m st = u := ⟨_, rfl⟩
  obtain ⟨sa, hsa⟩ : ∃ x, needP s m st = x := ⟨_, rfl⟩
  have hoka := (lo_need h.ok m).ok
  rw [hsa] at hne hoka hr
  rw [hu] at hne hr
  obtain ⟨name, hname⟩ : ∃ x, u.text = x := ⟨_, rfl⟩
  rw [hname] at hr
  have hnl1 := Lib.hid (fun W (hp : PF b s W sa) => newlines_f hp)
  have hokb := (lo_newl hoka).ok
  obtain ⟨sb, hsb⟩ : ∃ x, newl s sa = x := ⟨_, rfl⟩
  rw [hsb] at hnl1 hokb hr
  have hnw := Lib.hid (fun W (hp : PF b s W sb) => needWord_f hp ⟨#[105, 110]⟩)
  rw [show (⟨#[105, 110]⟩ : ByteArray).toList = [105, 110] by kernel_rfl] at hnw
  have hokc := (lo_need hokb (hasW s [105, 110] sb)).ok
  obtain ⟨sc, hsc⟩ : ∃ x, needP s (hasW s [105, 110] sb) sb = x := ⟨_, rfl⟩
  rw [hsc] at hnw hokc hr
  have hnl2 := Lib.hid (fun W (hp : PF b s W sc) => newlines_f hp)
  have hok2 := Lib.hid (lo_newl hokc).ok
  obtain ⟨st2, hst2⟩ : ∃ x, newl s sc = x := ⟨_, rfl⟩
  rw [hst2] at hnl2 hok2 hr
  obtain ⟨A, hA⟩ : ∃ A, itemsP s B d (rem s st2 + 1) [] [] st2 = A := ⟨_, rfl⟩
  dsimp only at hr
  rw [hA] at hr
  obtain ⟨wsA, ksA, stA⟩ := A
  dsimp only at hr
  have hnE := Lib.hid (fun W (hp : PF b s W stA) => needWord_f hp ⟨#[101, 115, 97, 99]⟩)
  rw [show (⟨#[101, 115, 97, 99]⟩ : ByteArray).toList = [101, 115, 97, 99] by kernel_rfl] at hnE
  obtain ⟨stE, hstE⟩ : ∃ x, needP s (hasW s [101, 115, 97, 99] stA) stA = x := ⟨_, rfl⟩
  rw [hstE] at hr hnE
  rw [hr.out]
  have hAH := Lib.hid hA
  have hmH := Lib.hid hm
  have hnameH := Lib.hid hname
  have e0 := fldk
  have e1 := fldx
  have hCH := Lib.hid hC
  have hBH := Lib.hid hB
  have y3 : W1.cell? ⟨q5, 3, none⟩ = some (.string ⟨#[]⟩) := hB5.out.cell 3
  clear hW hW1 hb1 h hq4 hq5 e5 ht hm hu hsa hname hsb hsc hst2 hA hstE hC hB hoka hokb hokc hi0 hi1 hr
  go_enter Tryz.func105, Tryz.ntmps105
  go_upto_region 1 with fail
  rw [hWH.out, hq4H.out]
  go_upto_region 2 with fail
  rw [hW1H.out, e5H.out]
  go_upto_region 3 with (first
    | (go_at_call 22; rw [hmH.out]; refine (hne.out _ hA2H.out).mono ?_; rintro e w3 ⟨rfl, hA3, hF3⟩; have hA3H := Lib.hid hA3; have hF3H := Lib.hid (hF2H.out.trans hF3); have hB3 := Lib.hid (hF3H.out.blk hB5.out hqb5); have z3 : w3.cell? ⟨q5, 3, none⟩ = some (.string ⟨#[]⟩) := hB3.out.cell 3; have r3 := hB3.out.frozen 3; clear hA3 hF3; dsimp only [tkV])
    | (go_at_call 20; refine hpk.out.mono ?_; rintro e w2 ⟨rfl, hA2, hF2⟩; have hA2H := Lib.hid hA2; have hF2H := Lib.hid hF2; clear hA2 hF2; dsimp only [tkV]))
  rw [hnameH.out]
  have hp4 := Lib.hid (hA3H.out.write (i := 3) (u := .string name) hB3.out (by decide) hqb5 hq516)
  have hf4 := Lib.hid ((hF1.out.trans hF3H.out).new_ hqw5 3 (.string name))
  have hz4 := Lib.hid (show Blk (w3.setCell ⟨q5, 3, none⟩ (.string name)) q4 30 N7 from (hF3H.out.blk hZ.out hqb2).far hq45 _)
  have hb4 := Lib.hid (show Blk (w3.setCell ⟨q5, 3, none⟩ (.string name)) q5 30 #[.int .i64 13, .bool false, .bool false, .string name, .slice none 0 0, .slice none 0 0, .slice none 0 0] from hB3.out.set_ 3 _)
  obtain ⟨W4, hW4⟩ : ∃ W, w3.setCell ⟨q5, 3, none⟩ (.string name) = W := ⟨_, rfl⟩
  rw [hW4] at hp4 hf4 hz4 hb4
  rw [hW4]
  have hn4 := Lib.hid (hnl1.out _ hp4.out)
  clear hW4 z3 r3 y3 hnl1 hpk hne
  go_upto_region 4 with (go_at_call 19; refine hn4.out.mono ?_; rintro e w5 ⟨rfl, hA5, hF5⟩; have hA5H := Lib.hid hA5; have hF5H := Lib.hid hF5; clear hA5 hF5)
  have hn5 := Lib.hid (hnw.out _ hA5H.out)
  clear hn4 hnw
  go_upto_region 5 with (go_at_call 101; refine hn5.out.mono ?_; rintro e w6 ⟨rfl, hA6, hF6⟩; have hA6H := Lib.hid hA6; have hF6H := Lib.hid (hF5H.out.trans hF6); clear hA6 hF6)
  have hn6 := Lib.hid (hnl2.out _ hA6H.out)
  clear hn5 hnl2
  go_upto_block 0 with (go_at_call 19; refine hn6.out.mono ?_; rintro e w7 ⟨rfl, hA7, hF7⟩; have hA7H := Lib.hid hA7; have hF7H := Lib.hid (hF6H.out.trans hF7); clear hA7 hF7)
  have hst := Lib.hid (show CsI b q4 q5 s w (wsA, ksA, stA) B d name st2 [] [] (rem s st2 + 1) w7 from ⟨hA7H.out, hf4.out.trans hF7H.out, hF7H.out.blk hz4.out hqb2, ⟨none, 0, none, 0, _, NdB.new_ _ (hF7H.out.blk hb4.out hqb5), id, by simp [Value.ownBlock], by simp [Value.ownBlock]⟩, hAH.out.symm, Nat.lt_succ_self _, by have := rem_bd hok2.out; show 0 + 3 * rem s st2 ≤ 420000; omega, by have := rem_bd hok2.out; show 0 + rem s st2 ≤ 140001; omega⟩)
  clear hn6 hf4 hz4 hb4 hp4 hAH hB5 hB3 hZ
  go_cut [] (fun wx => Hid (∃ (a : Option Addr) (n' c' : Nat) (a2 : Option Addr) (n2 c2 : Nat) (T : Nat → Prop), PF b s wx stA ∧ Fb b w wx ∧ Blk wx q4 30 N7 ∧ NdB q5 w.heap.size 13 false false name wsA [] ksA (.slice a n' c') (.slice none 0 0) (.slice a2 n2 c2) T wx ∧ ¬ T q4 ∧ (Value.slice a n' c').ownBlock ≠ some q4 ∧ (Value.slice a2 n2 c2).ownBlock ≠ some q4))
  case first =>
    go_wp2_with fail
    go_loopg [21] (rem s st2) (fun g _ wr => ∃ (st5 : PS) (ws : List ByteArray) (ks : List Nd) (f : Nat), g = rem s st5 ∧ Hid (CsI b q4 q5 s w (wsA, ksA, stA) B d name st5 ws ks f wr))
    case atStart => exact ⟨st2, [], [], _, rfl, hst⟩
    case round =>
      clear hst
      obtain ⟨st5, ws, ks, f, hg, hI⟩ := hrel
      obtain ⟨f, rfl⟩ : ∃ f', f = f' + 1 := ⟨f - 1, by have := hI.out.lf; omega⟩
      have hpk5 := Lib.hid (peek_f hI.out.pf)
      have han := hI.out.an
      rw [items_is] at han
      have hok5 := Lib.hid hI.out.pf.ok
      have hiw := Lib.hid (fun W (hp : PF b s W st5) => isWord_f hp ⟨#[101, 115, 97, 99]⟩)
      rw [show (⟨#[101, 115, 97, 99]⟩ : ByteArray).toList = [101, 115, 97, 99] by kernel_rfl] at hiw
      have hpff := Lib.hid (fun W (hp : PF b s W st5) => hp.fill)
      have hlf5 := lo_fill hok5.out
      have hlnH := Lib.hid hI.out.ln
      have hknH := Lib.hid hI.out.kn
      have hlfH := Lib.hid hI.out.lf
      have hgH := Lib.hid hg
      obtain ⟨v, hv⟩ : ∃ v, peekP s st5 = v := ⟨_, rfl⟩
      obtain ⟨o, ho⟩ : ∃ o, hasW s [101, 115, 97, 99] st5 = o := ⟨_, rfl⟩
      rw [hv] at hpk5 han
      rw [ho] at hiw han
      obtain ⟨stF, hstF⟩ : ∃ x, fill s st5 = x := ⟨_, rfl⟩
      rw [hstF] at han hpff hlf5
      obtain ⟨a5, k5, a6, k6, T5, hN5', hT4', ho5', ho6'⟩ := hI.out.nd
      have hNH := Lib.hid hN5'
      have hT4 := Lib.hid hT4'
      have hoW := Lib.hid ho5'
      have hoK := Lib.hid ho6'
      have hfbH := Lib.hid hI.out.fb
      have hzH := Lib.hid hI.out.z
      have hstop : ¬ (v.kind ≠ 0 ∧ o = false) → (wsA, ksA, stA) = (ws, ks, stF) := fun e => by rw [if_neg e] at han; exact han
      have hgo : (v.kind ≠ 0 ∧ o = false) → (wsA, ksA, stA) = (if hasO s [59, 59] (itemP s B d (patsP s stF).2).2 then itemsP s B d f (ws ++ (patsP s stF).1) (ks ++ [(itemP s B d (patsP s stF).2).1]) (newl s (nextP s (itemP s B d (patsP s stF).2).2)) else (ws ++ (patsP s stF).1, ks ++ [(itemP s B d (patsP s stF).2).1], fill s (itemP s B d (patsP s stF).2).2)) := fun e => by rw [if_pos e] at han; exact han
      have hfin : Hid (∀ w12, Fb b wr w12 → PF b s w12 stF → (wsA, ksA, stA) = (ws, ks, stF) → ∃ (a : Option Addr) (n' c' : Nat) (a2 : Option Addr) (n2 c2 : Nat) (T : Nat → Prop), PF b s w12 stA ∧ Fb b w w12 ∧ Blk w12 q4 30 N7 ∧ NdB q5 w.heap.size 13 false false name wsA [] ksA (.slice a n' c') (.slice none 0 0) (.slice a2 n2 c2) T w12 ∧ ¬ T q4 ∧ (Value.slice a n' c').ownBlock ≠ some q4 ∧ (Value.slice a2 n2 c2).ownBlock ≠ some q4) := Lib.hid (fun w12 hf hp e => by
        obtain ⟨rfl, rfl, rfl⟩ : wsA = ws ∧ ksA = ks ∧ stA = stF := by simpa using e
        exact ⟨a5, wsA.length, k5, a6, ksA.length, k6, T5, hp, hfbH.out.trans hf, hf.blk hzH.out hqb2, hNH.out.keep hf hlt hqb5, hT4.out, hoW.out, hoK.out⟩)
      clear hg hv ho hstF han hN5' hT4' ho5' ho6' hI
      cases hv0 : (v.kind == 0)
      rotate_left
      · have hst := hstop (fun e => e.1 (eq_of_beq hv0))
        have hv0' : (v.kind != 0) = false := by simp [bne, hv0]
        clear hstop hgo
        go_wp2_with (go_at_call 20; refine hpk5.out.mono ?_; rintro e w9 ⟨rfl, hA9, hF9⟩; have hA9H := Lib.hid (hpff.out _ hA9); have hF9H := Lib.hid hF9; clear hA9 hF9; dsimp only [tkV])
        go_meet
        case rel => exact Lib.hid (hfin.out _ hF9H.out hA9H.out hst)
      · have hv0' : (v.kind != 0) = true := by simp [bne, hv0]
        cases o
        rotate_left
        · have hst := hstop (fun e => by simp at e)
          clear hstop hgo
          go_wp2_with (first
            | (go_at_call 20; refine hpk5.out.mono ?_; rintro e w9 ⟨rfl, hA9, hF9⟩; have hA9H := Lib.hid hA9; have hF9H := Lib.hid hF9; have hiw9 := Lib.hid (hiw.out _ hA9); clear hA9 hF9; dsimp only [tkV])
            | (go_at_call 76; refine hiw9.out.mono ?_; rintro e w10 ⟨rfl, hA, hF⟩; have hA10 := Lib.hid (hpff.out _ hA); have hF10 := Lib.hid (hF9H.out.trans hF); clear hA hF))
          go_meet
          case rel => exact Lib.hid (hfin.out _ hF10.out hA10.out hst)
        · have hst := hgo ⟨(fun e => by rw [e] at hv0; cases hv0), rfl⟩
          clear hstop hgo hfin
          go_upto_region 7 with (first
            | (go_at_call 20; refine hpk5.out.mono ?_; rintro e w9 ⟨rfl, hA9, hF9⟩; have hA9H := Lib.hid hA9; have hF9H := Lib.hid hF9; have hiw9 := Lib.hid (hiw.out _ hA9); clear hA9 hF9; dsimp only [tkV])
            | (go_at_call 76; refine hiw9.out.mono ?_; rintro e w10 ⟨rfl, hA, hF⟩; have hA10 := Lib.hid (hpff.out _ hA); have hF10 := Lib.hid (hF9H.out.trans hF); clear hA hF))
          have hpt := Lib.hid (patterns_f (w := w10.drew) (hA10.out.below (below_drew (Below.refl _ _) 1)))
          have hlp := lo_pats hlf5.ok
          have hpl := pats_len hlf5.ok
          obtain ⟨PT, hPT⟩ : ∃ P, patsP s stF = P := ⟨_, rfl⟩
          rw [hPT] at hpt hst hlp hpl
          obtain ⟨ps, sp⟩ := PT
          dsimp only at hpt hst hlp hpl
          have hib := Lib.hid (fun W (hp : PF b s W sp) => itemBody_f (B := B) (d := d) hCH.out hp)
          have hli := lo_item hBH.out d hlp.ok
          obtain ⟨IT, hIT⟩ : ∃ I, itemP s B d sp = I := ⟨_, rfl⟩
          rw [hIT] at hib hst hli
          obtain ⟨n2, si⟩ := IT
          dsimp only at hib hst hli
          have hto := Lib.hid (fun W (hp : PF b s W si) => took_f hp ⟨#[59, 59]⟩)
          rw [show (⟨#[59, 59]⟩ : ByteArray).toList = [59, 59] by kernel_rfl] at hto
          have hle1 := hlf5.le
          have hle2 := hlp.le
          have hle3 := hli.le
          have hlt5 : hasO s [59, 59] si = true → rem s (newl s (nextP s si)) < rem s si := fun e => by
            have h1 := rem_taken hli.ok (by rw [isT_kind (show isT 2 [59, 59] (peekP s si) = true from e)]; decide)
            have h2 := (lo_newl (pw_next hli.ok)).le
            omega
          obtain ⟨o2, ho2⟩ : ∃ o, hasO s [59, 59] si = o := ⟨_, rfl⟩
          rw [ho2] at hto hst hlt5
          have hstH := Lib.hid hst
          have hltH := Lib.hid hlt5
          have hlisH := Lib.hid hli.ok
          have hplH := Lib.hid hpl
          have hleH := Lib.hid (show rem s stF ≤ rem s st5 ∧ rem s sp ≤ rem s stF ∧ rem s si ≤ rem s sp from ⟨hle1, hle2, hle3⟩)
          clear hPT hIT ho2 hst hlt5 hpk5 hiw hpff hiw9 hlf5 hlp hli hpl hle1 hle2 hle3
          have hN10 := Lib.hid (hNH.out.keep hF10.out hlt hqb5)
          have hN10d := Lib.hid (hN10.out.keep (W' := w10.drew) ((Fb.refl b w10).drewN 1) hlt hqb5)
          have hz10 := Lib.hid (hF10.out.blk hzH.out hqb2)
          have hf10 := Lib.hid (hfbH.out.trans hF10.out)
          have y4 : w10.drew.cell? ⟨q5, 4, none⟩ = some (.slice a5 ws.length k5) := hN10.out.blk.cell 4
          clear hNH hzH hfbH
          go_cut [] from 21 to 48 (fun wx => Hid (∃ (a7 : Option Addr) (k7 : Nat), PF b s wx sp ∧ Fb b w wx ∧ Blk wx q4 30 N7 ∧ NdB q5 w.heap.size 13 false false name (ws ++ ps) [] ks (.slice a7 (ws ++ ps).length k7) (.slice none 0 0) (.slice a6 ks.length k6) T5 wx ∧ (Value.slice a7 (ws ++ ps).length k7).ownBlock ≠ some q4))
          case first =>
            go_region_law (first
              | (refine step_app rfl (.tmp 31) (.tmp 33) 27 rfl w.heap.size 9 i0 _ 1 16 Tryz.underlying27 hi0H.out hz0 hz1 hz2 rfl (by decide) (.slice a5 ws.length k5) ws.length (flat K5 ws.length) (by rfl) hown5H.out aP ps.length cP (flat KP ps.length) (by rfl) hnl.out hsrc.out hone.out (by have := hlnH.out; have := hplH.out; have := hleH.out; omega) (by have := hlnH.out; have := hplH.out; have := hleH.out; omega) (by have := hf11.out.size; omega) ?_; intro a7 k7 w6 hown6 hg6 ho6; have hB7 : Blk w6 q5 30 #[.int .i64 13, .bool false, .bool false, .string name, .slice a5 ws.length k5, .slice none 0 0, .slice a6 ks.length k6] := (hg6.block q5 hN11.out.blk.lt (fun e => hN11.out.qw e.symm)).trans hN11.out.blk; have hB7H := Lib.hid hB7; have u4 : w6.cell? ⟨q5, 4, none⟩ = some (.slice a5 ws.length k5) := hB7.cell 4; have v4 := hB7.frozen 4; have hown6H := Lib.hid hown6; have hg6H := Lib.hid hg6; have ho6H := Lib.hid ho6; clear hB7 hown6 hg6 ho6)
              | (go_simp; go_at_call 120; refine hpt.out.mono ?_; rintro e w11 ⟨aP, cP, TP, rfl, hDP, hTP, hA11, hF11⟩; have hA11H := Lib.hid hA11; have hF11H := Lib.hid (((Fb.refl b w10).drewN 1).trans hF11); have hf11 := Lib.hid (hf10.out.trans hF11H.out); have hN11 := Lib.hid (hN10.out.keep hF11H.out hlt hqb5); have x4 : w11.cell? ⟨q5, 4, none⟩ = some (.slice a5 ws.length k5) := hN11.out.blk.cell 4; have l6 : q5 < w11.heap.size := hN11.out.blk.lt; obtain ⟨nP, KP, hrP, haP⟩ := hDP.row; have hsrc := Lib.hid (src_row hrP); have hnl := Lib.hid ((flat_get (K := KP) (k := 1) ps.length (fun j hj => ElS.len (haP j _ (List.getElem?_eq_getElem hj)))).1); have hone := Lib.hid (flat_all (K := KP) (P := fun u => u.oneCell' = true) ps.length (fun j hj => ElS.one (haP j _ (List.getElem?_eq_getElem hj)))); have haPH := Lib.hid haP; obtain ⟨K5, hown5, hat5⟩ := hN11.out.rw_.row; have hown5H := Lib.hid hown5; have hat5H := Lib.hid hat5; clear hA11 hF11 hrP haP hown5 hat5 hDP hTP))
            all_goals
              go_wp2_with fail
              go_meet
              case rel =>
                obtain ⟨k1, k2, k3⟩ := app_words (ys := ps) (L := KP) (K := K5) hN11.out hA11H.out hf11.out hlt hqb5 hq516 hqw5 hown6H.out hat5H.out rfl (fun j v hj => haPH.out j v hj) hg6H.out ho6H.out (fun g e => (hN11.out.rw_.own_lt e).1)
                refine Lib.hid ⟨a7, k7, k2, k3, ?_, by rw [List.length_append]; exact k1, fun e => ?_⟩
                · exact (Below.heap_setCell _ _ _ _ hq45).trans ((hg6H.out.block q4 (Nat.lt_of_lt_of_le hz10.out.lt hF11H.out.size) (fun e => hoW.out e.symm)).trans (hF11H.out.blk hz10.out hqb2))
                · rw [List.length_append] at e
                  rcases ho6H.out with h6 | h6
                  · exact hoW.out (h6.symm.trans e)
                  · have h7 := Option.some.inj (h6.symm.trans e)
                    have h8 := Nat.lt_of_lt_of_le hz10.out.lt hF11H.out.size
                    omega
          case rest =>
            obtain ⟨a7, k7, hp11, hf11, hz11, hN11, ho11⟩ := hcut.out
            have hf11H := Lib.hid hf11
            have hz11H := Lib.hid hz11
            have hN11H := Lib.hid hN11
            have ho11H := Lib.hid ho11
            have hib11 := Lib.hid (hib.out wc.drew (hp11.below (below_drew (Below.refl _ _) 1)))
            obtain ⟨wl, hwl⟩ : ∃ n, (ws ++ ps).length = n := ⟨_, rfl⟩
            rw [hwl] at hN11H ho11H
            have hwlH := Lib.hid hwl
            clear hcut hp11 hf11 hz11 hN11 ho11 hib hN10 hN10d hz10 hf10 y4 hpt hA10 hF10 hF9H hA9H hwl
            go_upto_region 8 with fail
            have y6 : wc.drew.cell? ⟨q5, 6, none⟩ = some (.slice a6 ks.length k6) := hN11H.out.blk.cell 6
            go_cut [] from 21 to 48 (fun wx => Hid (∃ (a8 : Option Addr) (k8 : Nat) (T8 : Nat → Prop), PF b s wx si ∧ Fb b w wx ∧ Blk wx q4 30 N7 ∧ NdB q5 w.heap.size 13 false false name (ws ++ ps) [] (ks ++ [n2]) (.slice a7 wl k7) (.slice none 0 0) (.slice a8 (ks ++ [n2]).length k8) T8 wx ∧ ¬ T8 q4 ∧ (Value.slice a8 (ks ++ [n2]).length k8).ownBlock ≠ some q4))
            case first =>
              go_region_law (first
                | (refine step_app rfl (.tmp 37) (.tmp 41) 23 rfl w.heap.size 30 i1 _ 7 104 Tryz.underlying23 hi1H.out hy0 hy1 hy2 rfl (by decide) (.slice a6 ks.length k6) ks.length (flat K5 ks.length) (by rfl) hown5H.out (some ⟨w12.heap.size, 0, none⟩) 1 1 [.int .i64 k, .bool x, .bool y, .string nm, .slice aw nw cw, .slice ar nr cr, .slice ak nk ck] (by rfl) (by rfl) (src_blk (Blk.new w12 _ _)) (by intro u hu; simp at hu; rcases hu with rfl | rfl | rfl | rfl | rfl | rfl | rfl <;> rfl) (by have := hknH.out; omega) (by have := hknH.out; omega) (by rw [World.size_alloc]; have := hf12.out.size; omega) ?_; intro a8 k8 w6 hown6 hg6 ho6; have hB7 : Blk w6 q5 30 #[.int .i64 13, .bool false, .bool false, .string name, .slice a7 wl k7, .slice none 0 0, .slice a6 ks.length k6] := (hg6.block q5 hN13.out.blk.lt (fun e => hN13.out.qk e.symm)).trans hN13.out.blk; have hB7H := Lib.hid hB7; have u6 : w6.cell? ⟨q5, 6, none⟩ = some (.slice a6 ks.length k6) := hB7.cell 6; have v6 := hB7.frozen 6; have hown6H := Lib.hid hown6; have hg6H := Lib.hid hg6; have ho6H := Lib.hid ho6; clear hB7 hown6 hg6 ho6)
                | (go_simp; go_at_call 121; refine hib11.out.mono ?_; rintro e w12 ⟨k, x, y, nm, aw, nw, cw, ar, nr, cr, ak, nk, ck, T2, rfl, hN, hT, hA12, hF12⟩; have hN12 := Lib.hid hN; have hT12 := Lib.hid hT; have hA12H := Lib.hid hA12; have hF12H := Lib.hid (((Fb.refl b wc).drewN 1).trans hF12); have hf12 := Lib.hid (hf11H.out.trans hF12H.out); have hNb := hN11H.out.keep hF12H.out hlt hqb5; have x6 : w12.cell? ⟨q5, 6, none⟩ = some (.slice a6 ks.length k6) := hNb.blk.cell 6; have hb13 : Below w12.heap.size w12 (w12.alloc (.cells #[.int .i64 k, .bool x, .bool y, .string nm, .slice aw nw cw, .slice ar nr cr, .slice ak nk ck] 30)) := (Below.refl _ _).alloc (Nat.le_refl _) _; have hN13 := Lib.hid (hNb.keep (Fb.of_below (b := b) hb13) hlt hqb5); have x6a : (w12.alloc (.cells #[.int .i64 k, .bool x, .bool y, .string nm, .slice aw nw cw, .slice ar nr cr, .slice ak nk ck] 30)).cell? ⟨q5, 6, none⟩ = some (.slice a6 ks.length k6) := hN13.out.blk.cell 6; have l6 : q5 < w12.heap.size := hNb.blk.lt; have hb13H := Lib.hid hb13; obtain ⟨K5, hown5, hat5⟩ := hN13.out.rk.row; have hown5H := Lib.hid hown5; have hat5H := Lib.hid hat5; clear hN hT hA12 hF12 hNb hb13 hown5 hat5))
              all_goals
                go_wp2_with fail
                go_meet
                case rel =>
                  have hTg : ∀ g, T2 g → wc.heap.size ≤ g ∧ g < w12.heap.size := fun g hg => hT12.out g hg
                  obtain ⟨k1, k2, k3⟩ := app_kids (ys := [n2]) (Tx := T2) (L := fun _ => [.int .i64 k, .bool x, .bool y, .string nm, .slice aw nw cw, .slice ar nr cr, .slice ak nk ck]) (K := K5) hN13.out (hA12H.out.below hb13H.out) (hf12.out.trans (Fb.of_below hb13H.out)) hlt hqb5 hq516 hqw5 hown6H.out hat5H.out rfl (fun j u hj => by
                    cases j with
                    | zero =>
                      obtain rfl : n2 = u := by simpa using hj
                      exact hN12.out.keep (fun g hg => hb13H.out.block g (hTg g hg).2) (fun _ h => h)
                    | succ j => simp at hj) (fun g hg => by
                    have h3 := hTg g hg
                    have h4 := hf11H.out.size
                    have h5 := hN11H.out.blk.lt
                    exact ⟨by omega, Nat.lt_of_lt_of_le h3.2 hb13H.out.size, by omega, fun e => by have := (hN11H.out.rw_.own_lt e).2; omega, by simp [Value.ownBlock], fun e => by have := (hN11H.out.rk.own_lt e).2; omega⟩) hg6H.out ho6H.out (fun g e => (hN13.out.rk.own_lt e).1)
                  have h8 := Nat.lt_of_lt_of_le hz11H.out.lt hF12H.out.size
                  refine Lib.hid ⟨a8, k8, _, k2, k3, ?_, by rw [List.length_append]; exact k1, fun e => ?_, fun e => ?_⟩
                  · exact (Below.heap_setCell _ _ _ _ hq45).trans ((hg6H.out.block q4 (Nat.lt_of_lt_of_le h8 hb13H.out.size) (fun e => hoK.out e.symm)).trans ((hF12H.out.trans (Fb.of_below hb13H.out)).blk hz11H.out hqb2))
                  · rcases e with e | e
                    · exact hT4.out e
                    · have := (hTg _ e).1; have := hz11H.out.lt; omega
                  · rw [List.length_append] at e
                    rcases ho6H.out with h6 | h6
                    · exact hoK.out (h6.symm.trans e)
                    · have h7 := Option.some.inj (h6.symm.trans e)
                      have := hb13H.out.size
                      omega
            case rest =>
              obtain ⟨a8, k8, T8, hp14, hf14, hz14, hN14, hT14, ho14⟩ := hcut.out
              have hf14H := Lib.hid hf14
              have hz14H := Lib.hid hz14
              have hN14H := Lib.hid hN14
              have hT14H := Lib.hid hT14
              have ho14H := Lib.hid ho14
              have hto14 := Lib.hid (hto.out _ hp14)
              clear hcut hp14 hf14 hz14 hN14 hT14 ho14 hto hib11 y6 hN11H hz11H hf11H
              cases o2
              · obtain ⟨rfl, rfl, rfl⟩ : wsA = ws ++ ps ∧ ksA = ks ++ [n2] ∧ stA = fill s si := by simpa using hstH.out
                go_wp2_with (go_at_call 45; refine hto14.out.mono ?_; rintro e w15 ⟨rfl, hA15, hF15⟩; have hA15H := Lib.hid (show PF b s w15 si from hA15); have hF15H := Lib.hid hF15; clear hA15 hF15)
                go_meet
                case rel => exact Lib.hid ⟨a7, wl, k7, a8, (ks ++ [n2]).length, k8, T8, hA15H.out.fill, hf14H.out.trans hF15H.out, hF15H.out.blk hz14H.out hqb2, hN14H.out.keep hF15H.out hlt hqb5, hT14H.out, ho11H.out, ho14H.out⟩
              · have hlt6 := hltH.out rfl
                go_wp2_with (first
                  | (go_at_call 45; refine hto14.out.mono ?_; rintro e w15 ⟨rfl, hA15, hF15⟩; have hA15H := Lib.hid (newlines_f (show PF b s w15 (nextP s si) from hA15)); have hF15H := Lib.hid hF15; clear hA15 hF15)
                  | (go_at_call 19; refine hA15H.out.mono ?_; rintro e w16 ⟨rfl, hA16, hF16⟩; have hA16H := Lib.hid hA16; have hF16H := Lib.hid (hF15H.out.trans hF16); clear hA16 hF16))
                go_roundg (rem s (newl s (nextP s si)))
                case measure => rw [hgH.out]; have := hleH.out; omega
                case rel =>
                  refine ⟨newl s (nextP s si), ws ++ ps, ks ++ [n2], f, rfl, Lib.hid ⟨hA16H.out, hf14H.out.trans hF16H.out, hF16H.out.blk hz14H.out hqb2, ⟨a7, k7, a8, k8, T8, by rw [hwlH.out]; exact hN14H.out.keep hF16H.out hlt hqb5, hT14H.out, by rw [hwlH.out]; exact ho11H.out, ho14H.out⟩, hstH.out, by have := hlfH.out; have := hleH.out; omega, ?_, ?_⟩⟩
                  · have := hlnH.out; have := hleH.out; have := hplH.out
                    rw [List.length_append]
                    omega
                  · have := hknH.out; have := hleH.out
                    rw [List.length_append]
                    show ks.length + 1 + _ ≤ _
                    omega
  case rest =>
    obtain ⟨a8, n8, k8, a9, n9, k9, T8, hp8, hff8, hz8, hn8, ht8, ho8, ho9⟩ := hcut.out
    have hff8H := Lib.hid hff8
    have hz8H := Lib.hid hz8
    have hn8H := Lib.hid hn8
    have ht8H := Lib.hid ht8
    have ho8H := Lib.hid ho8
    have ho9H := Lib.hid ho9
    have hnc := Lib.hid (hnE.out wc hp8)
    clear hcut hp8 hff8 hz8 hn8 ht8 ho8 ho9 hnE hst
    go_upto_region 12 with (go_at_call 101; refine hnc.out.mono ?_; rintro e w9 ⟨rfl, hA9, hF9⟩; have hA9H := Lib.hid hA9; have hF9H := Lib.hid hF9; clear hA9 hF9)
    have hn9 := Lib.hid (hn8H.out.keep hF9H.out hlt hqb5)
    have hz9 := Lib.hid (hF9H.out.blk hz8H.out hqb2)
    have c0 : w9.cell? ⟨q5, 0, none⟩ = some (.int .i64 13) := hn9.out.blk.cell 0
    have c1 : w9.cell? ⟨q5, 1, none⟩ = some (.bool false) := hn9.out.blk.cell 1
    have c2 : w9.cell? ⟨q5, 2, none⟩ = some (.bool false) := hn9.out.blk.cell 2
    have c3 : w9.cell? ⟨q5, 3, none⟩ = some (.string name) := hn9.out.blk.cell 3
    have c4 : w9.cell? ⟨q5, 4, none⟩ = some (.slice a8 n8 k8) := hn9.out.blk.cell 4
    have c5 : w9.cell? ⟨q5, 5, none⟩ = some (.slice none 0 0) := hn9.out.blk.cell 5
    have c6 : w9.cell? ⟨q5, 6, none⟩ = some (.slice a9 n9 k9) := hn9.out.blk.cell 6
    have z0 : w9.cell? ⟨q4, 0, none⟩ = some (.int .i64 0) := hz9.out.cell 0
    have z1 : w9.cell? ⟨q4, 1, none⟩ = some (.bool false) := hz9.out.cell 1
    have z2 : w9.cell? ⟨q4, 2, none⟩ = some (.bool false) := hz9.out.cell 2
    have z3 : w9.cell? ⟨q4, 3, none⟩ = some (.string ⟨#[]⟩) := hz9.out.cell 3
    have z4 : w9.cell? ⟨q4, 4, none⟩ = some (.slice none 0 0) := hz9.out.cell 4
    have z5 : w9.cell? ⟨q4, 5, none⟩ = some (.slice none 0 0) := hz9.out.cell 5
    have z6 : w9.cell? ⟨q4, 6, none⟩ = some (.slice none 0 0) := hz9.out.cell 6
    have f0 := hz9.out.frozen 0
    have f1 := hz9.out.frozen 1
    have f2 := hz9.out.frozen 2
    have f3 := hz9.out.frozen 3
    have f4 := hz9.out.frozen 4
    have f5 := hz9.out.frozen 5
    have f6 := hz9.out.frozen 6
    go_wp2_with fail
    refine bodyPost_ret (results_cell_row rfl _ _ q4 30 #[.int .i64 13, .bool false, .bool false, .string name, .slice a8 n8 k8, .slice none 0 0, .slice a9 n9 k9] (0, 0) _ rfl (put7_blk hz9.out _ _ _ _ _ _ _) Tryz.underlying30 rfl (by kernel_rfl)) rfl ?_
    have h9 := NdB.hd (b := b) (w := w) hn9.out
    exact h9.1.an hz9.out (h9.2.2 _ ht8H.out ho8H.out (by simp [Value.ownBlock]) ho9H.out) (Nat.le_of_eq hq4H.out) hqb2 hq16 hA9H.out (hff8H.out.trans hF9H.out)
end
end Go.Proofs.YtnhbcmhinhncfaaGreatDoor
