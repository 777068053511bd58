/- The document's code of a tree: Code. Conditions: the tree lies in memory; its numbers are such; its code is not too long. -/
import Derived.Test.YtnhbcmhinhncfaaGreatDoorPdF
namespace Go.Proofs.YtnhbcmhinhncfaaGreatDoor
open Go.RowKit Go.PlainAid
set_option linter.unusedVariables false
set_option linter.unusedSimpArgs false
attribute [local go_sem] Oper.semAt_some
def headL (k : Int) (x y : Bool) (nm : ByteArray) : List UInt8 := 40 :: Lib.itoa k ++ (if x then [33] else []) ++ (if y then [105, 110] else []) ++ 44 :: textL nm
def wordL (t : ByteArray) : List UInt8 := 119 :: textL t
def redL (r : Rd) : List UInt8 := 114 :: Lib.itoa r.fd ++ textL r.op ++ textL r.word ++ textL r.doc ++ (if r.raw then [114, 97, 119] else [])
mutual
def codeL : Nd → List UInt8
  | .mk k x y nm ws rs kids => headL k x y nm ++ ws.flatMap wordL ++ rs.flatMap redL ++ codeLs kids ++ [41]
def codeLs : List Nd → List UInt8
  | [] => []
  | n :: l => codeL n ++ codeLs l
end
def i64B (k : Int) : Bool := decide (-9223372036854775808 ≤ k) && decide (k ≤ 9223372036854775807)
mutual
/-- Its numbers are such of 64 bits. -/
def numsB : Nd → Bool
  | .mk k x y nm ws rs kids => i64B k && rs.all (fun r => i64B r.fd) && numsBs kids
def numsBs : List Nd → Bool
  | [] => true
  | n :: l => numsB n && numsBs l
end
theorem i64B_of {k : Int} (h : i64B k = true) : -9223372036854775808 ≤ k ∧ k ≤ 9223372036854775807 := by
  unfold i64B at h
  simpa using h
theorem numsBs_of : ∀ {l : List Nd}, numsBs l = true → ∀ n ∈ l, numsB n = true
  | n :: l, h, m, hm => by
    rw [numsBs, Bool.and_eq_true] at h
    rcases List.mem_cons.1 hm with rfl | hm
    · exact h.1
    · exact numsBs_of h.2 m hm
theorem codeLs_app : ∀ a b : List Nd, codeLs (a ++ b) = codeLs a ++ codeLs b
  | [], b => by rw [List.nil_append, codeLs, List.nil_append]
  | n :: a, b => by rw [List.cons_append, codeLs, codeLs, codeLs_app a b, List.append_assoc]
theorem codeLs_take {l : List Nd} {i : Nat} {x : Nd} (h : l[i]? = some x) : codeLs (l.take (i + 1)) = codeLs (l.take i) ++ codeL x := by
  rw [List.take_add_one, h, codeLs_app]
  show _ ++ codeLs [x] = _
  rw [codeLs, codeLs, List.append_nil]
theorem codeLs_le (l : List Nd) (i : Nat) : (codeLs (l.take i)).length ≤ (codeLs l).length := by
  have : codeLs l = codeLs (l.take i) ++ codeLs (l.drop i) := by rw [← codeLs_app, List.take_append_drop]
  rw [this, List.length_append]; omega
theorem flat_take {X : Type} {f : X → List UInt8} {l : List X} {i : Nat} {x : X} (h : l[i]? = some x) : (l.take (i + 1)).flatMap f = (l.take i).flatMap f ++ f x := by
  rw [List.take_add_one, h]
  simp
theorem flat_le {X : Type} (f : X → List UInt8) (l : List X) (i : Nat) : ((l.take i).flatMap f).length ≤ (l.flatMap f).length := by
  have : l.flatMap f = (l.take i).flatMap f ++ (l.drop i).flatMap f := by rw [← List.flatMap_append, List.take_append_drop]
  rw [this, List.length_append]; omega
/-- A redirection of a row. -/
theorem Done.rd_at {w : World} {T : Nat → Prop} {a : Option Addr} {n c i : Nat} {xs : List Rd} {t : Rd} (h : Done ElR 50 w T (.slice a n c) xs) (hn : n = xs.length) (hi : xs[i]? = some t) :
    ∃ g, a = some ⟨g, 0, none⟩ ∧ T g ∧ w.cell? ⟨g, i * 5, none⟩ = some (.int .i64 t.fd) ∧ w.cell? ⟨g, i * 5 + 1, none⟩ = some (.string t.op) ∧ w.cell? ⟨g, i * 5 + 2, none⟩ = some (.string t.word) ∧ w.cell? ⟨g, i * 5 + 3, none⟩ = some (.string t.doc) ∧ w.cell? ⟨g, i * 5 + 4, none⟩ = some (.bool t.raw) := by
  subst hn
  obtain ⟨n₀, K, h1, h2⟩ := h.row
  have hlt := (List.getElem?_eq_some_iff.1 hi).1
  obtain ⟨g, cap, hv, _, _⟩ := h1.form (by omega)
  obtain ⟨rfl, rfl⟩ : a = some ⟨g, 0, none⟩ ∧ c = cap := by simpa using hv
  have hN : K i = [.int .i64 t.fd, .string t.op, .string t.word, .string t.doc, .bool t.raw] := h2 i t hi
  have hfl := (flat_get (K := K) (k := 5) xs.length (fun j hj => ElR.len (h2 j _ (List.getElem?_eq_getElem hj)))).2 i hlt
  have hc : ∀ j, j < 5 → w.cell? ⟨g, i * 5 + j, none⟩ = (K i)[j]? := fun j hj => by
    have h9 : i * 5 + j < xs.length * 5 := by omega
    rw [h1.cellAt (i * 5 + j) h9, hfl j hj]
  rw [hN] at hc
  exact ⟨g, rfl, h.own g rfl, hc 0 (by decide), hc 1 (by decide), hc 2 (by decide), hc 3 (by decide), hc 4 (by decide)⟩
/-- A tree and its box, all along. -/
structure CdAt (w : World) (q : Nat) (T : Nat → Prop) (cs : List Value) (n : Nd) (W : World) : Prop where
  blk : Blk W q 30 cs.toArray
  tree : NdAt W T cs n
  lt : ∀ g, T g → g < w.heap.size
  ge : w.heap.size ≤ q
  bel : Below w.heap.size w W
theorem CdAt.below {w : World} {q : Nat} {T : Nat → Prop} {cs : List Value} {n : Nd} {W W' : World} (h : CdAt w q T cs n W) (hb : Below W.heap.size W W') : CdAt w q T cs n W' :=
  ⟨(hb.block q h.blk.lt).trans h.blk, h.tree.keep (fun g hg => hb.block g (Nat.lt_of_lt_of_le (h.lt g hg) h.bel.size)) (fun _ h => h), h.lt, h.ge, h.bel.trans (hb.mono h.bel.size)⟩
theorem adds {P : Program} {a b c : ByteArray} (h : a ++ b = c) (hs : a.size + b.size ≤ 4000000000) : ∀ w : World, (Op.stringOp .add a b).run P w = .ok (.string c) w := fun w => by
  rw [← h]; exact run_string_add_sum w _ _ (by omega)
/-- What has been written so far. -/
def Sofar (S : ByteArray) (l : List UInt8) : Prop := S.data.toList = l
theorem Sofar.add {S X : ByteArray} {l m : List UInt8} (h : Sofar S l) (hx : X.data.toList = m) : Sofar (S ++ X) (l ++ m) := by
  unfold Sofar at *
  rw [app_dataD, h, hx]
theorem Sofar.size {S : ByteArray} {l : List UInt8} (h : Sofar S l) : S.size = l.length := by rw [← h]; exact Lib.size_eq _
/-- What Code answers, of trees of at most m signs. -/
def CodeC (m : Nat) : Prop := ∀ (n : Nd), SizeOf.sizeOf n ≤ m → ∀ (w : World) (T : Nat → Prop) (k : Int) (x y : Bool) (nm : ByteArray) (aw : Option Addr) (nw cw : Nat) (ar : Option Addr) (nr cr : Nat) (ak : Option Addr) (nk ck : Nat),
    NdAt w T [.int .i64 k, .bool x, .bool y, .string nm, .slice aw nw cw, .slice ar nr cr, .slice ak nk ck] n → (∀ g, T g → g < w.heap.size) → numsB n = true → (codeL n).length ≤ 1000000000 →
    Calls Tryz.prog 9 #[.agg #[.int .i64 k, .bool x, .bool y, .string nm, .slice aw nw cw, .slice ar nr cr, .slice ak nk ck]] w fun e w' => e = .returned (.string ⟨(codeL n).toArray⟩) ∧ Below w.heap.size w w'
theorem red_f (fd : Int) (op word doc : ByteArray) : redL ⟨fd, op, word, doc, false⟩ = 114 :: Lib.itoa fd ++ textL op ++ textL word ++ textL doc := by unfold redL; simp
theorem red_t (fd : Int) (op word doc : ByteArray) : redL ⟨fd, op, word, doc, true⟩ = (114 :: Lib.itoa fd ++ textL op ++ textL word ++ textL doc) ++ [114, 97, 119] := by unfold redL; simp
theorem onto {W0 X Z : World} (h : Below W0.heap.size W0 X) (hb : Below X.heap.size X Z) : Below W0.heap.size W0 Z := h.trans (hb.mono h.size)
set_option maxRecDepth 100000 in
set_option maxHeartbeats 8000000 in
theorem code_step {m : Nat} (ih0 : CodeC m) : CodeC (m + 1) := by
    intro n hm w T k x y nm aw nw cw ar nr cr ak nk ck hN hT hnum hlen
    have ih := Lib.hid ih0
    clear ih0
    obtain ⟨k', x', y', nm', ws, rs, kids⟩ := n
    obtain ⟨⟨rfl, rfl, rfl, rfl, rfl, rfl, rfl⟩, _, _, _⟩ := hN.inv
    have hkid : ∀ t ∈ kids, SizeOf.sizeOf t ≤ m := fun t ht => by
      have := List.sizeOf_lt_of_mem ht
      simp at hm
      omega
    have hkidH := Lib.hid hkid
    rw [numsB, Bool.and_eq_true, Bool.and_eq_true] at hnum
    obtain ⟨⟨hk64, hr64⟩, hkn⟩ := hnum
    have hkn64 := i64B_of hk64
    have hr64H := Lib.hid hr64
    have hknH := Lib.hid hkn
    rw [codeL] at hlen ⊢
    obtain ⟨L1, hL1⟩ : ∃ L, headL k x y nm = L := ⟨_, rfl⟩
    obtain ⟨L2, hL2⟩ : ∃ L, ws.flatMap wordL = L := ⟨_, rfl⟩
    obtain ⟨L3, hL3⟩ : ∃ L, rs.flatMap redL = L := ⟨_, rfl⟩
    obtain ⟨L4, hL4⟩ : ∃ L, codeLs kids = L := ⟨_, rfl⟩
    rw [hL1, hL2, hL3, hL4] at hlen ⊢
    rw [List.length_append, List.length_append, List.length_append, List.length_append] at hlen
    have hL1H := Lib.hid hL1
    have hL2H := Lib.hid hL2
    have hL3H := Lib.hid hL3
    have hL4H := Lib.hid hL4
    have hlenH := Lib.hid hlen
    have hcd := Lib.hid (fun (q : Nat) (W : World) (hq : w.heap.size = q) (hW : w.alloc (.cells #[.int .i64 k, .bool x, .bool y, .string nm, .slice aw ws.length cw, .slice ar rs.length cr, .slice ak kids.length ck] 30) = W) => (show CdAt w q T [.int .i64 k, .bool x, .bool y, .string nm, .slice aw ws.length cw, .slice ar rs.length cr, .slice ak kids.length ck] (.mk k x y nm ws rs kids) W from by
      have hb : Below w.heap.size w W := by rw [← hW]; exact (Below.refl _ _).alloc (Nat.le_refl _) _
      refine ⟨?_, hN.keep (fun g hg => hb.block g (hT g hg)) (fun _ h => h), hT, by omega, hb⟩
      rw [← hW, ← hq]; exact Blk.new _ _ _))
    have hdk := Lib.hid (fun W => refDecimal_any k hkn64.1 hkn64.2 W)
    have htn := Lib.hid (fun W => text_any nm (by
      have h1 := textL_le nm
      have h2 : (textL nm).length ≤ L1.length := by rw [← hL1]; unfold headL; simp; omega
      omega) W)
    have hD0 : Hid (Sofar (decB k) (Lib.itoa k) ∧ (⟨(Lib.itoa k).toArray⟩ : ByteArray) = decB k ∧ (decB k).size ≤ 21) := Lib.hid ⟨rfl, rfl, decB_size k hkn64.1 hkn64.2⟩
    have hT0 : Hid (Sofar (textB nm) (textL nm)) := Lib.hid (textB_data nm)
    clear hL1 hL2 hL3 hL4 hlen hN hT hkid hk64 hr64 hkn
    obtain ⟨q, hq⟩ : ∃ q, w.heap.size = q := ⟨_, rfl⟩
    go_enter Tryz.func9, Tryz.ntmps9
    go_upto_region 1 with fail
    obtain ⟨W1, hW1⟩ : ∃ W, w.alloc (.cells #[.int .i64 k, .bool x, .bool y, .string nm, .slice aw ws.length cw, .slice ar rs.length cr, .slice ak kids.length ck] 30) = W := ⟨_, rfl⟩
    have hC := Lib.hid (hcd.out q W1 hq hW1)
    rw [hW1]
    clear hW1 hq

    have g0 : W1.cell? ⟨q, 0, none⟩ = some (.int .i64 k) := hC.out.blk.cell 0
    obtain ⟨D, hD⟩ : ∃ D, decB k = D := ⟨_, rfl⟩
    rw [hD] at hD0
    have hDz : D.size ≤ 21 := hD0.out.2.2
    have hadd1 := adds (P := Tryz.prog) (a := ⟨#[40]⟩) (b := D) rfl (by show 1 + D.size ≤ _; omega)
    clear hD hcd
    go_upto_if 13 with (go_at_call 14; refine (hdk.out _).mono ?_; rintro e w2 ⟨rfl, hb⟩; have hC2 := Lib.hid (hC.out.below hb); have g1 : w2.cell? ⟨q, 1, none⟩ = some (.bool x) := hC2.out.blk.cell 1; clear hb; rw [hD0.out.2.1])
    have g2 : w2.cell? ⟨q, 2, none⟩ = some (.bool y) := hC2.out.blk.cell 2
    have g3 : w2.cell? ⟨q, 3, none⟩ = some (.string nm) := hC2.out.blk.cell 3
    obtain ⟨S1, hS1e⟩ : ∃ S, (⟨#[40]⟩ : ByteArray) ++ D = S := ⟨_, rfl⟩
    have hS1 : Hid (Sofar S1 (40 :: Lib.itoa k)) := Lib.hid (by rw [← hS1e]; exact Sofar.add (S := ⟨#[40]⟩) (l := [40]) rfl hD0.out.1)
    have hz1 : S1.size ≤ 22 := by rw [← hS1e, ByteArray.size_append]; show 1 + D.size ≤ 22; omega
    rw [hS1e]
    clear hS1e hadd1 hDz g0
    have hadd2 := adds (P := Tryz.prog) (a := S1) (b := ⟨#[33]⟩) rfl (by show S1.size + 1 ≤ _; omega)
    go_cut [3] (fun s3 wx => ∃ S, s3 = .string S ∧ S.size ≤ 23 ∧ Hid (Sofar S (40 :: Lib.itoa k ++ (if x then [33] else []))) ∧ w2 = wx)
    case first =>
      cases x
      · go_wp2_with fail
        go_meet
        case rel => exact ⟨S1, rfl, by omega, Lib.hid (by rw [if_neg (by decide), List.append_nil]; exact hS1.out), rfl⟩
      · go_wp2_with fail
        go_meet
        case rel => exact ⟨_, rfl, by rw [ByteArray.size_append]; show S1.size + 1 ≤ 23; omega, Lib.hid (by have h := hS1.out.add (X := ⟨#[33]⟩) (m := [33]) rfl; simpa using h), rfl⟩
    case rest =>
    obtain ⟨S2, rfl, hz2, hS2, rfl⟩ := hcut
    clear hadd2 hS1 hz1
    have hadd3 := adds (P := Tryz.prog) (a := S2) (b := ⟨#[105, 110]⟩) rfl (by show S2.size + 2 ≤ _; omega)
    go_upto_if 17 with fail
    go_cut [3] (fun s3 wx => ∃ S, s3 = .string S ∧ S.size ≤ 25 ∧ Hid (Sofar S (40 :: Lib.itoa k ++ (if x then [33] else []) ++ (if y then [105, 110] else []))) ∧ w2 = wx)
    case first =>
      cases y
      · go_wp2_with fail
        go_meet
        case rel => exact ⟨S2, rfl, by omega, Lib.hid (by rw [if_neg (show ¬ (false = true) by decide), List.append_nil]; exact hS2.out), rfl⟩
      · go_wp2_with fail
        go_meet
        case rel => exact ⟨_, rfl, by rw [ByteArray.size_append]; show S2.size + 2 ≤ 25; omega, Lib.hid (by have h := hS2.out.add (X := ⟨#[105, 110]⟩) (m := [105, 110]) rfl; simpa using h), rfl⟩
    case rest =>
    obtain ⟨S3, rfl, hz3, hS3, rfl⟩ := hcut
    clear hadd3 hS2 hz2
    have hadd4 := adds (P := Tryz.prog) (a := S3) (b := ⟨#[44]⟩) rfl (by show S3.size + 1 ≤ _; omega)
    have hnmz : (textB nm).size ≤ 1000000000 := by
      rw [textB_size]
      have h2 : (textL nm).length ≤ L1.length := by rw [← hL1H.out]; unfold headL; simp; omega
      have := hlenH.out
      omega
    obtain ⟨X, hX⟩ : ∃ X, textB nm = X := ⟨_, rfl⟩
    rw [hX] at hT0 hnmz
    have hXH := Lib.hid hX
    have hadd5 := adds (P := Tryz.prog) (a := S3 ++ ⟨#[44]⟩) (b := X) rfl (by rw [ByteArray.size_append]; show S3.size + 1 + X.size ≤ _; omega)
    have hS4 : Hid (Sofar (S3 ++ ⟨#[44]⟩ ++ X) (L1 ++ ([] : List ByteArray).flatMap wordL)) := Lib.hid (by
      rw [List.flatMap_nil, List.append_nil, ← hL1H.out]
      have h1 := (hS3.out.add (X := ⟨#[44]⟩) (m := [44]) rfl).add hT0.out
      unfold headL
      simpa using h1)
    obtain ⟨S4, hS4e⟩ : ∃ S, S3 ++ ⟨#[44]⟩ ++ X = S := ⟨_, rfl⟩
    rw [hS4e] at hadd5 hS4
    clear hX hS4e hS3 hT0
    have hwl : Hid (ws.length ≤ 1000000000) := Lib.hid (by
      have h1 : ∀ l : List ByteArray, l.length ≤ (l.flatMap wordL).length := by
        intro l
        induction l with
        | nil => simp
        | cons a l ih => rw [List.flatMap_cons, List.length_append, List.length_cons]; have : 1 ≤ (wordL a).length := by simp [wordL]
                         omega
      have := h1 ws; rw [hL2H.out] at this; have := hlenH.out; omega)
    have hrl : Hid (rs.length ≤ 1000000000) := Lib.hid (by
      have h1 : ∀ l : List Rd, l.length ≤ (l.flatMap redL).length := by
        intro l
        induction l with
        | nil => simp
        | cons a l ih => rw [List.flatMap_cons, List.length_append, List.length_cons]; have : 1 ≤ (redL a).length := by simp [redL]
                         omega
      have := h1 rs; rw [hL3H.out] at this; have := hlenH.out; omega)
    have hkl : Hid (kids.length ≤ 1000000000) := Lib.hid (by
      have h1 : ∀ l : List Nd, l.length ≤ (codeLs l).length := by
        intro l
        induction l with
        | nil => simp
        | cons a l ih => rw [codeLs, List.length_append, List.length_cons]; have : 1 ≤ (codeL a).length := by cases a; rw [codeL, List.length_append]; simp
                         omega
      have := h1 kids; rw [hL4H.out] at this; have := hlenH.out; omega)
    go_upto_region 8 with (go_at_call 15; refine (htn.out _).mono ?_; rintro e w3 ⟨rfl, hb⟩; have hC3 := Lib.hid (hC2.out.below hb); clear hb; rw [hXH.out])
    clear hadd4 hadd5 g1 g2 g3 hC2 hnmz
    go_loopw [3, 4] (fun s3 s4 wr => ∃ (i : Nat) (S : ByteArray), i ≤ ws.length ∧ s4 = .int .i64 (i : Int) ∧ s3 = .string S ∧ Hid (Sofar S (L1 ++ (ws.take i).flatMap wordL)) ∧ Hid (CdAt w q T [.int .i64 k, .bool x, .bool y, .string nm, .slice aw ws.length cw, .slice ar rs.length cr, .slice ak kids.length ck] (.mk k x y nm ws rs kids) wr)) (fun _ s4 _ => ws.length - (intOf s4).toNat)
    case atStart => exact ⟨0, S4, Nat.zero_le _, by go_num, rfl, Lib.hid (by rw [List.take_zero]; exact hS4.out), hC3⟩
    case round =>
      obtain ⟨i, S, hi, rfl, rfl, hS, hCr⟩ := hrel
      have g4 : wr.cell? ⟨q, 4, none⟩ = some (.slice aw ws.length cw) := hCr.out.blk.cell 4
      have hwl' := hwl.out
      by_cases hlt : i < ws.length
      · obtain ⟨t, ht⟩ : ∃ t, ws[i]? = some t := ⟨_, List.getElem?_eq_getElem hlt⟩
        obtain ⟨_, hdw, _, _⟩ := hCr.out.tree.inv
        obtain ⟨g, rfl, _, ct⟩ := hdw.text_at rfl ht
        have hft := flat_take (f := wordL) ht
        have hle := flat_le wordL ws (i + 1)
        rw [hft, List.length_append, hL2H.out] at hle
        have hle2 : (wordL t).length = 1 + (textL t).length := by unfold wordL; rw [List.length_cons]; omega
        have hlz := hlenH.out
        have hSz := hS.out.size
        rw [List.length_append] at hSz
        have htz : t.size ≤ 2000000000 := by have := textL_le t; omega
        have htx := Lib.hid (fun W => text_any t htz W)
        have hTz := textB_size t
        have hTd : Hid (Sofar (textB t) (textL t)) := Lib.hid (textB_data t)
        obtain ⟨X2, hX2⟩ : ∃ X, textB t = X := ⟨_, rfl⟩
        rw [hX2] at hTz hTd
        have hX2H := Lib.hid hX2
        have hadd1 := adds (P := Tryz.prog) (a := S) (b := ⟨#[119]⟩) rfl (by show S.size + 1 ≤ _; omega)
        have hadd2 := adds (P := Tryz.prog) (a := S ++ ⟨#[119]⟩) (b := X2) rfl (by rw [ByteArray.size_append]; show S.size + 1 + X2.size ≤ _; omega)
        have hS' : Hid (Sofar (S ++ ⟨#[119]⟩ ++ X2) (L1 ++ (ws.take (i + 1)).flatMap wordL)) := Lib.hid (by
          rw [hft, ← List.append_assoc]
          have h1 := (hS.out.add (X := ⟨#[119]⟩) (m := [119]) rfl).add hTd.out
          rw [List.append_assoc] at h1
          exact h1)
        obtain ⟨S', hS'e⟩ : ∃ S', S ++ ⟨#[119]⟩ ++ X2 = S' := ⟨_, rfl⟩
        rw [hS'e] at hadd2 hS'
        clear hX2 hS'e hdw hft hle hle2 hlz hSz hTz ht
        go_wp2_with (go_at_call 15; refine (htx.out _).mono ?_; rintro e w4 ⟨rfl, hb⟩; have hC4 := Lib.hid (hCr.out.below hb); clear hb; rw [hX2H.out])
        go_roundw
        case rel => exact ⟨i + 1, S', hlt, by go_num, rfl, hS', hC4⟩
        case measure => simp [intOf]; omega
      · obtain rfl : i = ws.length := by omega
        have hS5 : Hid (Sofar S (L1 ++ L2 ++ ([] : List Rd).flatMap redL)) := Lib.hid (by have := hS.out; rw [List.take_length, hL2H.out] at this; simpa using this)
        clear hS
        go_upto_region 12 with fail
        clear g4 hlt hi hwl' htn
        go_loopw [3, 5] (fun s3 s5 wr => ∃ (i : Nat) (S : ByteArray), i ≤ rs.length ∧ s5 = .int .i64 (i : Int) ∧ s3 = .string S ∧ Hid (Sofar S (L1 ++ L2 ++ (rs.take i).flatMap redL)) ∧ Hid (CdAt w q T [.int .i64 k, .bool x, .bool y, .string nm, .slice aw ws.length cw, .slice ar rs.length cr, .slice ak kids.length ck] (.mk k x y nm ws rs kids) wr)) (fun _ s5 _ => rs.length - (intOf s5).toNat)
        case atStart => exact ⟨0, S, Nat.zero_le _, by go_num, rfl, Lib.hid (by rw [List.take_zero]; exact hS5.out), hCr⟩
        case round =>
          obtain ⟨i, S, hi, rfl, rfl, hS, hCr⟩ := hrel
          have g5 : wr.cell? ⟨q, 5, none⟩ = some (.slice ar rs.length cr) := hCr.out.blk.cell 5
          have hrl' := hrl.out
          by_cases hlt : i < rs.length
          · obtain ⟨t, ht⟩ : ∃ t, rs[i]? = some t := ⟨_, List.getElem?_eq_getElem hlt⟩
            obtain ⟨_, _, hdr, _⟩ := hCr.out.tree.inv
            obtain ⟨g, rfl, hTg, ct0, ct1, ct2, ct3, ct4⟩ := hdr.rd_at rfl ht
            have hft := flat_take (f := redL) ht
            have hle := flat_le redL rs (i + 1)
            rw [hft, List.length_append, hL3H.out] at hle
            have hfd := i64B_of (List.all_eq_true.1 hr64H.out t (List.mem_of_getElem? ht))
            obtain ⟨fd, op, word, doc, raw⟩ := t
            dsimp only at ct0 ct1 ct2 ct3 ct4 hfd
            have hle2 : (redL ⟨fd, op, word, doc, raw⟩).length = 1 + (Lib.itoa fd).length + (textL op).length + (textL word).length + (textL doc).length + (if raw then [114, 97, 119] else ([] : List UInt8)).length := by
              unfold redL; simp only [List.length_append, List.length_cons]; omega
            have hlz := hlenH.out
            have hSz := hS.out.size
            rw [List.length_append, List.length_append] at hSz
            have hz1 := textL_le op
            have hz2 := textL_le word
            have hz3 := textL_le doc
            have htx := Lib.hid (fun W => refDecimal_any fd hfd.1 hfd.2 W)
            have hto := Lib.hid (fun W => text_any op (by omega) W)
            have htw := Lib.hid (fun W => text_any word (by omega) W)
            have htd := Lib.hid (fun W => text_any doc (by omega) W)
            have hTz0 : (decB fd).size = (Lib.itoa fd).length := by show (Lib.itoa fd).toArray.size = _; simp
            have hTz1 := textB_size op
            have hTz2 := textB_size word
            have hTz3 := textB_size doc
            have hTd0 : Hid (Sofar (decB fd) (Lib.itoa fd) ∧ (⟨(Lib.itoa fd).toArray⟩ : ByteArray) = decB fd) := Lib.hid ⟨rfl, rfl⟩
            have hTd1 : Hid (Sofar (textB op) (textL op)) := Lib.hid (textB_data op)
            have hTd2 : Hid (Sofar (textB word) (textL word)) := Lib.hid (textB_data word)
            have hTd3 : Hid (Sofar (textB doc) (textL doc)) := Lib.hid (textB_data doc)
            obtain ⟨X0, hX0⟩ : ∃ X, decB fd = X := ⟨_, rfl⟩
            obtain ⟨X1, hX1⟩ : ∃ X, textB op = X := ⟨_, rfl⟩
            obtain ⟨X2, hX2⟩ : ∃ X, textB word = X := ⟨_, rfl⟩
            obtain ⟨X3, hX3⟩ : ∃ X, textB doc = X := ⟨_, rfl⟩
            rw [hX0] at hTz0 hTd0
            rw [hX1] at hTz1 hTd1
            rw [hX2] at hTz2 hTd2
            rw [hX3] at hTz3 hTd3
            have hX1H := Lib.hid hX1
            have hX2H := Lib.hid hX2
            have hX3H := Lib.hid hX3
            have z1 : (S ++ (⟨#[114]⟩ : ByteArray)).size = S.size + 1 := by rw [ByteArray.size_append]; rfl
            have z2 : (S ++ (⟨#[114]⟩ : ByteArray) ++ X0).size = S.size + 1 + X0.size := by rw [ByteArray.size_append, z1]
            have z3 : (S ++ (⟨#[114]⟩ : ByteArray) ++ X0 ++ X1).size = S.size + 1 + X0.size + X1.size := by rw [ByteArray.size_append, z2]
            have z4 : (S ++ (⟨#[114]⟩ : ByteArray) ++ X0 ++ X1 ++ X2).size = S.size + 1 + X0.size + X1.size + X2.size := by rw [ByteArray.size_append, z3]
            have z5 : (S ++ (⟨#[114]⟩ : ByteArray) ++ X0 ++ X1 ++ X2 ++ X3).size = S.size + 1 + X0.size + X1.size + X2.size + X3.size := by rw [ByteArray.size_append, z4]
            have hadd1 := adds (P := Tryz.prog) (a := S) (b := ⟨#[114]⟩) rfl (by show S.size + 1 ≤ _; omega)
            have hadd2 := adds (P := Tryz.prog) (a := S ++ ⟨#[114]⟩) (b := X0) rfl (by omega)
            have hadd3 := adds (P := Tryz.prog) (a := S ++ ⟨#[114]⟩ ++ X0) (b := X1) rfl (by omega)
            have hadd4 := adds (P := Tryz.prog) (a := S ++ ⟨#[114]⟩ ++ X0 ++ X1) (b := X2) rfl (by omega)
            have hadd5 := adds (P := Tryz.prog) (a := S ++ ⟨#[114]⟩ ++ X0 ++ X1 ++ X2) (b := X3) rfl (by omega)
            have hS' : Hid (Sofar (S ++ ⟨#[114]⟩ ++ X0 ++ X1 ++ X2 ++ X3) (L1 ++ L2 ++ (rs.take i).flatMap redL ++ (114 :: Lib.itoa fd ++ textL op ++ textL word ++ textL doc))) := Lib.hid (by
              have h1 := ((((hS.out.add (X := ⟨#[114]⟩) (m := [114]) rfl).add hTd0.out.1).add hTd1.out).add hTd2.out).add hTd3.out
              simpa [List.append_assoc] using h1)
            obtain ⟨S', hS'e⟩ : ∃ S', S ++ ⟨#[114]⟩ ++ X0 ++ X1 ++ X2 ++ X3 = S' := ⟨_, rfl⟩
            rw [hS'e] at hadd5 hS' z5
            have hadd6 := adds (P := Tryz.prog) (a := S') (b := ⟨#[114, 97, 119]⟩) rfl (by show S'.size + 3 ≤ _; omega)
            have hftH := Lib.hid hft
            clear hX0 hX1 hX2 hX3 hS'e hdr hft hle hle2 hlz hSz hz1 hz2 hz3 hTz0 hTz1 hTz2 hTz3 z1 z2 z3 z4 z5 ht hfd hTd1 hTd2 hTd3
            go_upto_region 15 with fail
            obtain ⟨q5, hq5⟩ : ∃ q, wr.heap.size = q := ⟨_, rfl⟩
            obtain ⟨W2, hW2⟩ : ∃ W, wr.alloc (.cells #[.int .i64 fd, .string op, .string word, .string doc, .bool raw] 50) = W := ⟨_, rfl⟩
            have hb2 : Below wr.heap.size wr W2 := by rw [← hW2]; exact (Below.refl _ _).alloc (Nat.le_refl _) _
            have hC2 := Lib.hid (hCr.out.below hb2)
            have hR2 := Lib.hid (show Blk W2 q5 50 #[.int .i64 fd, .string op, .string word, .string doc, .bool raw] by rw [← hW2, ← hq5]; exact Blk.new _ _ _)
            rw [hW2]
            try rw [hq5]
            clear hW2 hb2 hq5 g5 ct0 ct1 ct2 ct3 ct4 hCr
            go_cut [3] (fun s3 wx => s3 = .string S' ∧ Hid (Below W2.heap.size W2 wx))
            case first =>
              have r0 : W2.cell? ⟨q5, 0, none⟩ = some (.int .i64 fd) := hR2.out.cell 0
              have r1 : W2.cell? ⟨q5, 1, none⟩ = some (.string op) := hR2.out.cell 1
              have r2 : W2.cell? ⟨q5, 2, none⟩ = some (.string word) := hR2.out.cell 2
              have r3 : W2.cell? ⟨q5, 3, none⟩ = some (.string doc) := hR2.out.cell 3
              have hK : Hid (∀ Z, Below W2.heap.size W2 Z → Z.cell? ⟨q5, 0, none⟩ = some (.int .i64 fd) ∧ Z.cell? ⟨q5, 1, none⟩ = some (.string op) ∧ Z.cell? ⟨q5, 2, none⟩ = some (.string word) ∧ Z.cell? ⟨q5, 3, none⟩ = some (.string doc)) := Lib.hid (fun Z hZ => by
                have h : Blk Z q5 50 #[.int .i64 fd, .string op, .string word, .string doc, .bool raw] := (hZ.block q5 hR2.out.lt).trans hR2.out
                exact ⟨h.cell 0, h.cell 1, h.cell 2, h.cell 3⟩)
              have hb0 : Below W2.heap.size W2 W2 := Below.refl _ _
              have hbd : Below W2.heap.size W2 W2.drew := (Below.refl _ _).drew
              go_region_held3 (fun Z => Z.cell? ⟨q5, 0, none⟩ = some (.int .i64 fd) ∧ Z.cell? ⟨q5, 1, none⟩ = some (.string op) ∧ Z.cell? ⟨q5, 2, none⟩ = some (.string word) ∧ Z.cell? ⟨q5, 3, none⟩ = some (.string doc)) (first | exact hK.out _ (by assumption) | go_keep | fail)
                ((first
                  | (go_at_call 14; refine (htx.out _).mono ?_; rintro e w4 ⟨rfl, hb⟩; have hb4 : Below W2.heap.size W2 w4 := onto (by assumption) hb; clear hb; rw [hTd0.out.2])
                  | (go_at_call 15; with_reducible refine (hto.out _).mono ?_; rintro e w4 ⟨rfl, hb⟩; have hb5 : Below W2.heap.size W2 w4 := onto (by assumption) hb; clear hb; rw [hX1H.out])
                  | (go_at_call 15; with_reducible refine (htw.out _).mono ?_; rintro e w4 ⟨rfl, hb⟩; have hb6 : Below W2.heap.size W2 w4 := onto (by assumption) hb; clear hb; rw [hX2H.out])
                  | (go_at_call 15; with_reducible refine (htd.out _).mono ?_; rintro e w4 ⟨rfl, hb⟩; have hb7 : Below W2.heap.size W2 w4 := onto (by assumption) hb; clear hb; rw [hX3H.out])
                  | fail))
              all_goals
                go_wp2_with fail
                go_meet
                case rel => exact ⟨rfl, Lib.hid (by assumption)⟩
            case rest =>
              obtain ⟨rfl, hcut⟩ := hcut
              have hC6 := Lib.hid (hC2.out.below hcut)
              have hR6 : Blk wc q5 50 #[.int .i64 fd, .string op, .string word, .string doc, .bool raw] := (hcut.block q5 hR2.out.lt).trans hR2.out
              have r4 : wc.cell? ⟨q5, 4, none⟩ = some (.bool raw) := hR6.cell 4
              clear hadd1 hadd2 hadd3 hadd4 hadd5 htx hto htw htd hC2 hR2 hR6 hTd0 hX1H hX2H hX3H hcut
              cases raw
              · have hS2 : Hid (Sofar S' (L1 ++ L2 ++ (rs.take (i + 1)).flatMap redL)) := Lib.hid (by have h := hS'.out; rw [hftH.out, red_f, ← List.append_assoc]; exact h)
                clear hS' hftH
                go_wp2_with fail
                go_roundw
                case rel => exact ⟨i + 1, S', hlt, by go_num, rfl, hS2, hC6⟩
                case measure => simp [intOf]; omega
              · have hS2 : Hid (Sofar (S' ++ ⟨#[114, 97, 119]⟩) (L1 ++ L2 ++ (rs.take (i + 1)).flatMap redL)) := Lib.hid (by have h := hS'.out.add (X := ⟨#[114, 97, 119]⟩) (m := [114, 97, 119]) rfl; rw [hftH.out, red_t, ← List.append_assoc, ← List.append_assoc]; exact h)
                clear hS' hftH
                go_wp2_with fail
                go_roundw
                case rel => exact ⟨i + 1, _, hlt, by go_num, rfl, hS2, hC6⟩
                case measure => simp [intOf]; omega
          · obtain rfl : i = rs.length := by omega
            have hS6 : Hid (Sofar S (L1 ++ L2 ++ L3 ++ codeLs ([] : List Nd))) := Lib.hid (by have := hS.out; rw [List.take_length, hL3H.out] at this; rw [codeLs, List.append_nil]; exact this)
            clear hS
            go_upto_region 19 with fail
            clear g5 hlt hi hrl'
            go_loopw [3, 7] (fun s3 s7 wr => ∃ (i : Nat) (S : ByteArray), i ≤ kids.length ∧ s7 = .int .i64 (i : Int) ∧ s3 = .string S ∧ Hid (Sofar S (L1 ++ L2 ++ L3 ++ codeLs (kids.take i))) ∧ Hid (CdAt w q T [.int .i64 k, .bool x, .bool y, .string nm, .slice aw ws.length cw, .slice ar rs.length cr, .slice ak kids.length ck] (.mk k x y nm ws rs kids) wr)) (fun _ s7 _ => kids.length - (intOf s7).toNat)
            case atStart => exact ⟨0, S, Nat.zero_le _, by go_num, rfl, Lib.hid (by rw [List.take_zero]; exact hS6.out), hCr⟩
            case round =>
              obtain ⟨i, S, hi, rfl, rfl, hS, hCr⟩ := hrel
              have g6 : wr.cell? ⟨q, 6, none⟩ = some (.slice ak kids.length ck) := hCr.out.blk.cell 6
              have hkl' := hkl.out
              have hSz := hS.out.size
              rw [List.length_append, List.length_append, List.length_append] at hSz
              have hlz := hlenH.out
              by_cases hlt : i < kids.length
              · obtain ⟨t, ht⟩ : ∃ t, kids[i]? = some t := ⟨_, List.getElem?_eq_getElem hlt⟩
                obtain ⟨_, _, _, hdk⟩ := hCr.out.tree.inv
                obtain ⟨g, k1, x1, y1, nm1, aw1, nw1, cw1, ar1, nr1, cr1, ak1, nk1, ck1, rfl, hTg, hN1, m0, m1, m2, m3, m4, m5, m6⟩ := hdk.node_at rfl ht
                have hft := codeLs_take ht
                have hle := codeLs_le kids (i + 1)
                rw [hft, List.length_append, hL4H.out] at hle
                have hmem := List.mem_of_getElem? ht
                have hic := Lib.hid (ih.out t (hkidH.out t hmem) wr T k1 x1 y1 nm1 aw1 nw1 cw1 ar1 nr1 cr1 ak1 nk1 ck1 hN1 (fun g hg => Nat.lt_of_lt_of_le (hCr.out.lt g hg) hCr.out.bel.size) (numsBs_of hknH.out t hmem) (by omega))
                obtain ⟨X, hX⟩ : ∃ X : ByteArray, (⟨(codeL t).toArray⟩ : ByteArray) = X := ⟨_, rfl⟩
                have hXd : Hid (X.data.toList = codeL t) := Lib.hid (by rw [← hX])
                have hXz : X.size = (codeL t).length := by rw [← hXd.out]; exact Lib.size_eq _
                rw [hX] at hic
                have hadd1 := adds (P := Tryz.prog) (a := S) (b := X) rfl (by omega)
                have hS' : Hid (Sofar (S ++ X) (L1 ++ L2 ++ L3 ++ codeLs (kids.take (i + 1)))) := Lib.hid (by rw [hft, ← List.append_assoc]; exact hS.out.add hXd.out)
                clear hX hXd hXz hdk hN1 hft hle hmem ht hSz hlz
                go_wp2_with (go_at_call 9; refine hic.out.mono ?_; rintro e w4 ⟨rfl, hb⟩; have hC4 := Lib.hid (hCr.out.below hb); clear hb)
                go_roundw
                case rel => exact ⟨i + 1, _, hlt, by go_num, rfl, hS', hC4⟩
                case measure => simp [intOf]; omega
              · obtain rfl : i = kids.length := by omega
                have hS' : Hid (Sofar (S ++ ⟨#[41]⟩) (L1 ++ L2 ++ L3 ++ L4 ++ [41])) := Lib.hid (by have h := hS.out; rw [List.take_length, hL4H.out] at h; exact h.add rfl)
                have hz : S.size ≤ 1000000000 := by
                  rw [List.take_length, hL4H.out] at hSz
                  omega
                have hadd1 := adds (P := Tryz.prog) (a := S) (b := ⟨#[41]⟩) rfl (by show S.size + 1 ≤ _; omega)
                clear hS hSz hlz
                go_wp2_with fail
                go_ret
                refine ⟨?_, hCr.out.bel⟩
                have h : S ++ ⟨#[41]⟩ = (⟨(L1 ++ L2 ++ L3 ++ L4 ++ [41]).toArray⟩ : ByteArray) := ba_data hS'.out
                rw [← h]
                rfl
theorem code_all : ∀ m, CodeC m
  | 0 => fun n hm => by cases n; simp at hm
  | m + 1 => code_step (code_all m)
end Go.Proofs.YtnhbcmhinhncfaaGreatDoor
