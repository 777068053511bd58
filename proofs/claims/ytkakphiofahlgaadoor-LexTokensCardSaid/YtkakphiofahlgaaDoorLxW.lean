/- The walk of LexTokens. No condition. -/
import Derived.Test.YtkakphiofahlgaaDoorLxX
namespace Go.Proofs.YtkakphiofahlgaaDoor
open Go.RowKit Go.Shelf Go.PlainAid
attribute [local go_sem] Oper.semAt_some

theorem tv0 : tv [tk0] = [.int .i64 0, .string ⟨#[]⟩, .int .i64 0, .string ⟨#[]⟩, .bool false] := rfl
theorem src_blk {w : World} {g : Nat} {t : TypeId} {xs : List Value} (h : Blk w g t xs.toArray) : Src w (some ⟨g, 0, none⟩) xs := fun j u hj => by
  refine ⟨_, rfl, ?_⟩
  rw [Addr.add_lit, h.cell]
  simpa using hj

theorem fr_own {β : Type} {b : Nat} {v : Option Nat} {w0 : World} : OwnFrom w0.heap.size (fun (_ : β) W => Fr b v w0 W) := fun _ X Y row hs hg hr =>
  ⟨hg.os.trans hs.os, hg.tape.trans hs.tape, hg.output.trans hs.output, Nat.le_trans hs.size hg.size, fun k h1 h2 h3 =>
    (hg.block k (Nat.lt_of_lt_of_le h1 hs.size) (fun e => by have := (hr k e.symm).1; omega)).trans (hs.block k h1 h2 h3)⟩
/-- What a round finds. -/
def InvT (b12 : Nat) (w0 : World) (pre : List (Tk × Nat)) (W : World) : Prop := Fr b12 none w0 W ∧ Blk W b12 3 #[.int .i64 pre.length]
/-- What a round that ends it all leaves. -/
def EndT (b12 b4 : Nat) (Y : List (Tk × Nat)) (w0 : World) (c : Code) (xs : List (Tk × Nat)) (W : World) : Prop := c = .ret ∧ ∃ v, Fr b12 (some b4) w0 W ∧ Blk W b4 4 #[.bool v] ∧ (v = true ∨ ¬ xs <+: Y)
theorem invT_own {b12 : Nat} {w0 : World} : OwnFrom w0.heap.size (InvT b12 w0) := fun _ X Y row hs hg hr =>
  ⟨fr_own (β := Unit) () X Y row hs.1 hg hr, blk_own _ _ _ _ () X Y row hs.2 hg hr⟩
theorem endT_own {b12 b4 : Nat} {Y : List (Tk × Nat)} {w0 : World} (c : Code) : OwnFrom w0.heap.size (EndT b12 b4 Y w0 c) := fun xs X Z row hs hg hr => by
  obtain ⟨h0, v, h1, h2, h3⟩ := hs
  exact ⟨h0, v, fr_own (β := Unit) () X Z row h1 hg hr, blk_own _ _ _ _ () X Z row h2 hg hr, h3⟩
theorem ba_eq {a b : ByteArray} (h : (a.toList == b.toList) = true) : a = b := by
  rw [ByteArray.toList_eq, ByteArray.toList_eq] at h
  have h2 := eq_of_beq h
  obtain ⟨⟨x⟩⟩ := a
  obtain ⟨⟨y⟩⟩ := b
  obtain rfl : x = y := h2
  rfl
theorem tk_ne {t u : Tk} (h : t ≠ u) : (t.kind == u.kind) = false ∨ ((t.kind == u.kind) = true ∧ (t.text.toList == u.text.toList) = false) ∨ ((t.kind == u.kind) = true ∧ (t.text.toList == u.text.toList) = true ∧ ((t.place : Int) == (u.place : Int)) = false) ∨
    ((t.kind == u.kind) = true ∧ (t.text.toList == u.text.toList) = true ∧ ((t.place : Int) == (u.place : Int)) = true ∧ (t.doc.toList == u.doc.toList) = false) ∨ ((t.kind == u.kind) = true ∧ (t.text.toList == u.text.toList) = true ∧ ((t.place : Int) == (u.place : Int)) = true ∧ (t.doc.toList == u.doc.toList) = true ∧ (t.raw == u.raw) = false) := by
  by_cases h1 : (t.kind == u.kind) = true
  · by_cases h2 : (t.text.toList == u.text.toList) = true
    · by_cases h3 : ((t.place : Int) == (u.place : Int)) = true
      · by_cases h4 : (t.doc.toList == u.doc.toList) = true
        · by_cases h5 : (t.raw == u.raw) = true
          · exfalso
            apply h
            have h2' := ba_eq h2
            have h4' := ba_eq h4
            obtain ⟨a, b, c, d, e⟩ := t
            obtain ⟨a', b', c', d', e'⟩ := u
            simp only [beq_iff_eq] at h1 h3 h5 h2' h4'
            obtain rfl : c = c' := by omega
            subst h1 h2' h4' h5
            rfl
          · exact .inr (.inr (.inr (.inr ⟨h1, h2, h3, h4, by simpa using h5⟩)))
        · exact .inr (.inr (.inr (.inl ⟨h1, h2, h3, by simpa using h4⟩)))
      · exact .inr (.inr (.inl ⟨h1, h2, by simpa using h3⟩))
    · exact .inr (.inl ⟨h1, by simpa using h2⟩)
  · exact .inl (by simpa using h1)

theorem keepsOthers_drewN (W : World) (n : Nat) : KeepsOthers W (W.drewN n) := ⟨Nat.le_refl _, fun _ _ h _ => h⟩
theorem fr_end {b c : Nat} {w0 W : World} (h : Fr b none w0 W) (u : Value) : Fr b (some c) w0 (W.setCell ⟨c, 0, none⟩ u) :=
  ⟨h.os, h.tape, h.output, by simpa using h.size, fun k h1 h2 h3 => (Below.heap_setCell _ _ _ _ (fun e => h3 (by rw [show k = c from e]))).trans (h.block k h1 h2 (by simp))⟩
theorem keepC_set {S : Nat → Prop} (W : World) (b : Nat) (hb : S b) (u : Value) : KeepC S W (W.setCell ⟨b, 0, none⟩ u) :=
  ⟨by simp, fun g o hg _ hs => (Below.heap_setCell _ _ _ _ (fun e => hs (by rw [show g = b from e]; exact hb))).trans hg⟩
theorem keepC_drewN {S : Nat → Prop} (W : World) (n : Nat) : KeepC S W (W.drewN n) := ⟨Nat.le_refl _, fun _ _ h _ _ => h⟩
/-- What is not told of x is no piece of the tagged list. -/
theorem not_piece {l : List Tk} {e : Nat} {pre : List (Tk × Nat)} {x : Tk × Nat} (h : e ≠ 0 → ∃ l', l = l' ++ [tk0]) (hx : ¬ (l[pre.length]? = some x.1 ∧ (x.2 ≠ 0 → pre.length + 1 = l.length ∧ x.2 = e))) : ¬ pre ++ [x] <+: tagE l e := fun ⟨t, ht⟩ => by
  apply hx
  refine tag_get h ?_
  rw [← ht, List.append_assoc, List.getElem?_append_right (Nat.le_refl _)]
  simp

set_option maxRecDepth 100000 in
set_option maxHeartbeats 4000000 in
theorem tokens_in (s : ByteArray) (stop : Int) (w : World) : CallsIn Fence.wide 6 Tryd.prog 3 #[.string s, .int .i64 stop] w fun e w' => e = .returned (.bool true) ∧ Below w.heap.size w w' := by
  refine callsIn_of_wp_marks Tryd.func3 rfl trivial ?_ rfl
  simp only [Tryd.ntmps3, List.size_toArray, List.length_cons, List.length_nil, Nat.reduceAdd, Nat.reduceSub, Array.replicate_succ, Array.replicate_zero, List.push_toArray, List.append_toArray, List.nil_append, List.cons_append]
  obtain ⟨i0, hi0, hz0, hz1, hz2⟩ := info_parts infoTk
  have hawH := Lib.hid (fun w => awake_any w)
  obtain ⟨b3, hb3⟩ : ∃ x, w.heap.size = x := ⟨_, rfl⟩
  obtain ⟨wA, hwA⟩ : ∃ x, (w.alloc (.cells #[.int .i64 stop] 3)).alloc (.cells #[.bool false] 4) = x := ⟨_, rfl⟩
  have hsA : wA.heap.size = b3 + 2 := by rw [← hwA]; simp [hb3]
  have k3 : Blk wA b3 3 #[.int .i64 stop] := by rw [← hwA, ← hb3]; exact (Blk.new _ _ _).alloc _
  have k4 : Blk wA (b3 + 1) 4 #[.bool false] := by
    have x := Blk.new (w.alloc (.cells #[.int .i64 stop] 3)) 4 #[.bool false]
    rw [World.size_alloc, hb3] at x
    rw [← hwA]; exact x
  have hbA : Hid (Below b3 w wA) := Lib.hid (by rw [← hwA]; exact ((Below.refl _ _).alloc (by omega) _).alloc (by simp; omega) _)
  have hwH := Lib.hid hwA
  have h3H := Lib.hid hb3
  clear hwA
  gi_upto_region 1 with fail
  rw [hwH.out]
  gi_upto_region 5 with (refine ⟨trivial, ?_⟩; gi_at_call 8; refine (callsIn_wide.2 (hawH.out _)).mono ?_; rintro e wB ⟨rfl, hbB⟩)
  have hsB := hbB.size
  obtain ⟨b5, hb5⟩ : ∃ x, wB.heap.size = x := ⟨_, rfl⟩
  have h5H := Lib.hid hb5
  obtain ⟨wC, hwC⟩ : ∃ x, (wB.alloc (.cells #[.slice none 0 0] 23)).alloc (.cells #[.int .i64 0] 24) = x := ⟨_, rfl⟩
  have hTS : Hid (TS w b3 b5 stop none 0 [] 0 wC) := Lib.hid (by
    rw [← hwC]
    refine ⟨((blk_beneath k3 hbB).alloc _).alloc _, ((blk_beneath k4 hbB).alloc _).alloc _, ?_, ?_, World.ownsRow_nil _ _ _ _, ?_, by omega⟩
    · rw [← hb5]; exact (Blk.new _ _ _).alloc _
    · have x := Blk.new (wB.alloc (.cells #[.slice none 0 0] 23)) 24 #[.int .i64 0]
      rw [World.size_alloc, hb5] at x
      exact x
    · rw [h3H.out]
      exact ((hbA.out.trans (below_of hbB (by omega))).alloc (by omega) _).alloc (by simp; omega) _)
  have hwCH := Lib.hid hwC
  clear hwC hbB hbA k3 k4 hwH hsB hsA hb3
  rw [hwCH.out, h5H.out]
  clear hb5
  gi_step
  gi_step
  gi_step
  gi_step
  gi_step
  gi_step
  gi_step
  obtain ⟨WL, hWL⟩ : ∃ x, (wantM s (s.size + 1) 0).1 = x := ⟨_, rfl⟩
  obtain ⟨WE, hWE⟩ : ∃ x, (wantM s (s.size + 1) 0).2 = x := ⟨_, rfl⟩
  gi_cut [7] from 86 (fun _ wx => ∃ a c, TS w b3 b5 stop a c WL WE wx ∧ Hid (WL.length ≤ 65537))
  case first =>
    gi_wp2
    gi_loopw [7] (fun s7 wr => ∃ (i f : Nat) (a : Option Addr) (c : Nat) (ts : List Tk), i ≤ s.size ∧ s.size + 1 ≤ i + f ∧ ts.length ≤ i ∧ i ≤ 65536 ∧ s7 = .int .i64 i ∧ Hid (ts ++ (wantM s f i).1 = WL ∧ (wantM s f i).2 = WE) ∧ Hid (TS w b3 b5 stop a c ts 0 wr)) (fun s7 _ => s.size - (intOf s7).toNat)
    case atStart => exact ⟨0, s.size + 1, none, 0, [], Nat.zero_le _, by omega, Nat.le_refl _, Nat.zero_le _, by go_num, Lib.hid ⟨by rw [← hWL]; rfl, hWE⟩, hTS⟩
    case round =>
      obtain ⟨i, f, a, c, ts, hi, hf, htl, hii, rfl, hm, hT⟩ := hrel
      obtain ⟨f, rfl⟩ : ∃ g, f = g + 1 := ⟨f - 1, by omega⟩
      have hln := Line_any s i wr
      obtain ⟨n, hn⟩ : ∃ n, ts.length = n := ⟨_, rfl⟩
      by_cases he : (topM s i).err = 0
      · obtain ⟨tc1, tc2, tc3⟩ := top_count hi he
        have hws := wt_end (s := s) (f := f) (i := i) he
        have hwo := wt_on (s := s) (f := f) (i := i) he
        obtain ⟨r, hr⟩ : ∃ r, topM s i = r := ⟨_, rfl⟩
        rw [hr] at hln tc1 tc2 he hws hwo
        obtain ⟨l, nx, pl, er⟩ := r
        simp only at hln tc1 tc2 he hws hwo
        obtain ⟨m, hmm⟩ : ∃ n, l.length = n := ⟨_, rfl⟩
        rw [hmm] at hln tc1
        subst he
        have hlnH := Lib.hid hln
        have hnm : Hid (n + m = (ts ++ l).length) := Lib.hid (by rw [List.length_append, hn, hmm])
        have hwsH := Lib.hid hws
        have hwoH := Lib.hid hwo
        have hnH := Lib.hid hn
        have hmH := Lib.hid hmm
        rw [hn] at htl
        clear hln hr hws hwo hn hmm
        by_cases h2 : nx ≤ i ∨ s.size ≤ nx
        · have hW1 : Hid (ts ++ l = WL ∧ 0 = WE) := Lib.hid (by have h9 := hm.out; rw [hwsH.out h2] at h9; exact h9)
          by_cases h3 : nx ≤ i
          all_goals
            gi_wp2_with (first | (refine ⟨trivial, ?_⟩; gi_at_call 9; refine (callsIn_wide.2 hlnH.out).mono ?_; rintro e w2 ⟨a2, c2, rfl, hrow, hbel⟩; have hrow2 := hrow; simp only [hmH.out] at hrow2; have hrowH := Lib.hid hrow2; have hT2 := Lib.hid (hT.out.beneath hbel); have x5 : w2.cell? ⟨b5, 0, none⟩ = some (.slice a n c) := (by rw [hT2.out.s5.cell, hnH.out]; rfl); clear hrow hrow2 hbel) | (gi_at_builtin; refine wpListIn_app rfl _ _ 23 rfl w.heap.size 28 i0 _ 5 56 Tryd.underlying23 hi0 hz0 hz1 hz2 rfl (by decide) (.slice a n c) n (tv ts) (by rfl) (by have h9 := hT2.out.row; rw [hnH.out] at h9; exact h9) a2 m c2 (tv l) (by rfl) (by rw [tv_len, hmH.out]) (src_row hrowH.out) (tv_one l) (by omega) (by omega) hT2.out.below.size ?_; intro a' c' w3 hown hg; have k5 := Lib.hid ((hg.block b5 hT2.out.s5.lt (by have h9 := row_off hT2.out.s5 (by decide) hT2.out.row; rw [hnH.out] at h9; exact h9)).trans hT2.out.s5); have z5 : w3.cell? ⟨b5, 0, none⟩ = some (.slice a ts.length c) := (Blk.cell k5.out 0); have f5 : w3.frozen? ⟨b5, 0, none⟩ = false := (Blk.frozen k5.out 0); have hT3 := Lib.hid (hT2.out.app (a' := a') (c' := c') (l := l) (by rw [← hnm.out]; exact hown) (by rw [hnH.out]; exact hg)); clear hown hg))
            gi_meet
            exact ⟨a', c', by rw [← hW1.out.1, ← hW1.out.2]; exact (by have h9 := hT3.out; rw [← hnm.out] at h9; exact h9), Lib.hid (by rw [← hW1.out.1, ← hnm.out]; omega)⟩
        · have hW1 : Hid (ts ++ l ++ (wantM s f nx).1 = WL ∧ (wantM s f nx).2 = WE) := Lib.hid (by have h9 := hm.out; rw [hwoH.out h2] at h9; rw [List.append_assoc]; exact h9)
          have h3 : ¬ nx ≤ i := fun h => h2 (.inl h)
          have h4 : ¬ s.size ≤ nx := fun h => h2 (.inr h)
          gi_wp2_with (first | (refine ⟨trivial, ?_⟩; gi_at_call 9; refine (callsIn_wide.2 hlnH.out).mono ?_; rintro e w2 ⟨a2, c2, rfl, hrow, hbel⟩; have hrow2 := hrow; simp only [hmH.out] at hrow2; have hrowH := Lib.hid hrow2; have hT2 := Lib.hid (hT.out.beneath hbel); have x5 : w2.cell? ⟨b5, 0, none⟩ = some (.slice a n c) := (by rw [hT2.out.s5.cell, hnH.out]; rfl); clear hrow hrow2 hbel) | (gi_at_builtin; refine wpListIn_app rfl _ _ 23 rfl w.heap.size 28 i0 _ 5 56 Tryd.underlying23 hi0 hz0 hz1 hz2 rfl (by decide) (.slice a n c) n (tv ts) (by rfl) (by have h9 := hT2.out.row; rw [hnH.out] at h9; exact h9) a2 m c2 (tv l) (by rfl) (by rw [tv_len, hmH.out]) (src_row hrowH.out) (tv_one l) (by omega) (by omega) hT2.out.below.size ?_; intro a' c' w3 hown hg; have k5 := Lib.hid ((hg.block b5 hT2.out.s5.lt (by have h9 := row_off hT2.out.s5 (by decide) hT2.out.row; rw [hnH.out] at h9; exact h9)).trans hT2.out.s5); have z5 : w3.cell? ⟨b5, 0, none⟩ = some (.slice a ts.length c) := (Blk.cell k5.out 0); have f5 : w3.frozen? ⟨b5, 0, none⟩ = false := (Blk.frozen k5.out 0); have hT3 := Lib.hid (hT2.out.app (a' := a') (c' := c') (l := l) (by rw [← hnm.out]; exact hown) (by rw [hnH.out]; exact hg)); clear hown hg))
          go_roundw
          case rel => exact ⟨nx, f, a', c', ts ++ l, by omega, by omega, by rw [← hnm.out]; omega, by omega, by go_num, hW1, Lib.hid (by have h9 := hT3.out; rw [← hnm.out] at h9; exact h9)⟩
          case measure => simp [intOf]; omega
      · have hwb := wt_bad (s := s) (f := f) (i := i) he
        have hbad := top_bad (s := s) (i := i) he
        obtain ⟨r, hr⟩ : ∃ r, topM s i = r := ⟨_, rfl⟩
        rw [hr] at hln he hwb hbad
        obtain ⟨l, nx, pl, er⟩ := r
        simp only at hln he hwb hbad
        obtain ⟨rfl, rfl⟩ := hbad
        have hE := ne_err he
        have hW1 : Hid (ts ++ [tk0] = WL ∧ er = WE) := Lib.hid (by have h9 := hm.out; rw [hwb] at h9; exact h9)
        have hlnH := Lib.hid hln
        have hnm : Hid (n + 1 = (ts ++ [tk0]).length) := Lib.hid (by rw [List.length_append, hn]; rfl)
        have hnH := Lib.hid hn
        rw [hn] at htl
        clear hln hr hn hwb
        gi_wp2_with (first | (refine ⟨trivial, ?_⟩; gi_at_call 9; refine (callsIn_wide.2 hlnH.out).mono ?_; rintro e w2 ⟨a2, c2, rfl, hrow, hbel⟩; have hT1 := hT.out.beneath hbel; have hT4 := Lib.hid ((hT1.erred er).beneath (alB (w2.setCell ⟨b5 + 1, 0, none⟩ (.int .i64 er)) (.cells #[.int .i64 0, .string ⟨#[]⟩, .int .i64 0, .string ⟨#[]⟩, .bool false] 28))); have f6 : w2.frozen? ⟨b5 + 1, 0, none⟩ = false := hT1.s6.frozen 0; have x6 : w2.cell? ⟨b5 + 1, 0, none⟩ = some (.int .i64 0) := hT1.s6.cell 0; have x5 : w2.cell? ⟨b5, 0, none⟩ = some (.slice a n c) := (by rw [hT1.s5.cell, hnH.out]; rfl); clear hrow hbel hT1) | (gi_at_builtin; refine wpListIn_app rfl _ _ 23 rfl w.heap.size 28 i0 _ 5 56 Tryd.underlying23 hi0 hz0 hz1 hz2 rfl (by decide) (.slice a n c) n (tv ts) (by rfl) (by have h9 := hT4.out.row; rw [hnH.out] at h9; exact h9) (some ⟨w2.heap.size, 0, none⟩) 1 1 (tv [tk0]) (by rfl) (by rfl) (src_blk (newB _ _ w2.heap.size (by simp))) (tv_one [tk0]) (by omega) (by omega) hT4.out.below.size ?_; intro a' c' w3 hown hg; have k5 := Lib.hid ((hg.block b5 hT4.out.s5.lt (by have h9 := row_off hT4.out.s5 (by decide) hT4.out.row; rw [hnH.out] at h9; exact h9)).trans hT4.out.s5); have z5 : w3.cell? ⟨b5, 0, none⟩ = some (.slice a ts.length c) := (Blk.cell k5.out 0); have f5 : w3.frozen? ⟨b5, 0, none⟩ = false := (Blk.frozen k5.out 0); have hT3 := Lib.hid (hT4.out.app (a' := a') (c' := c') (l := [tk0]) (by rw [← hnm.out]; exact hown) (by rw [hnH.out]; exact hg)); clear hown hg))
        gi_meet
        exact ⟨a', c', by rw [← hW1.out.1, ← hW1.out.2]; exact (by have h9 := hT3.out; rw [← hnm.out] at h9; exact h9), Lib.hid (by rw [← hW1.out.1, ← hnm.out]; omega)⟩
  case rest =>
    obtain ⟨a, c, hT0, hn64⟩ := hcut
    have hlast : WE ≠ 0 → ∃ l', WL = l' ++ [tk0] := fun h => by rw [← hWE] at h; rw [← hWL]; exact want_last _ _ h
    have hyl : yieldsM s s.size 0 = tagE WL WE := by rw [yields_all, hWL, hWE]
    obtain ⟨b12, hb12⟩ : ∃ x, wc.heap.size = x := ⟨_, rfl⟩
    obtain ⟨W0, hW0⟩ : ∃ x, (wc.alloc (.cells #[.int .i64 0] 3)).alloc (.cells #[.string s] 9) = x := ⟨_, rfl⟩
    have hbc : Below wc.heap.size wc W0 := by rw [← hW0]; exact (alB _ _).alloc (by simp) _
    have k12 : Blk W0 b12 3 #[.int .i64 0] := by rw [← hW0, ← hb12]; exact (Blk.new _ _ _).alloc _
    have ks : Blk W0 (b12 + 1) 9 #[.string s] := by rw [← hW0]; exact newB _ _ _ (by simp [hb12])
    have hs0 : W0.heap.size = b12 + 2 := by rw [← hW0]; simp [hb12]
    have hT := hT0.beneath hbc
    have hb5 := hT0.s6.lt
    rw [hb12] at hb5
    have hTH := Lib.hid hT
    have hW0H := Lib.hid hW0
    clear hT0 hTS hbc hT hW0 hwCH
    gi_wp2_with (refine ⟨trivial, ?_⟩; gi_at_call 10; refine (callsIn_wide.2 (tokens_any s _)).mono ?_; rintro e w7 ⟨rfl, rfl⟩)
    rw [hW0H.out]
    have hKb : ∀ (W : World) (l : Nat) (o o' : Obj), W0.heap.size ≤ l → W.heap[l]? = some o → o.isCells = false → o.isWalk = false → KeepC (fun g => g = b12 ∨ g = b3 + 1) W (W.putObj l o') := fun W l o o' _ h h1 _ => keepC_put W l o o' h h1
    have hKa : ∀ (W : World) (o : Obj), KeepC (fun g => g = b12 ∨ g = b3 + 1) W (W.alloc o) := fun W o => keepC_of (alB W o)
    have hTb := hTH.out.base
    apply wpIn_range_boxed (n := 6) rfl (by omega) (gf := 15) (lb := #[.pointer (some ⟨b12 + 1, 0, none⟩)]) rfl trivial (enters_of Tryd.func15 (by kernel_rfl) rfl)
      (tokens_stops 5 (by omega) (b12 + 1) (b12 + 1) (yieldsM s s.size 0).length (fun g => g = b12 ∨ g = b3 + 1) s W0 ks (by omega) (fun g hg => by omega) (by omega) (Nat.le_refl _)) (fun h k => h.trans k) hKb hKa (fun _ => rfl)
      (InvT b12 W0) (EndT b12 (b3 + 1) (yieldsM s s.size 0) W0) invT_own endT_own (fun p W h => h.1.size) ⟨Fr.refl _ _ _, k12⟩ 28 (fun x => #[.int .i64 x.1.kind, .string x.1.text, .int .i64 x.1.place, .string x.1.doc, .bool x.1.raw]) ?_ ?assign ?body ?done ?stop
    case assign =>
      intro l q x W K hq hK
      dsimp only [encK, Tk.agg]
      gi_wp2
      exact hK
    case body =>
      intro l q pre x W hI hq hbx hlen
      obtain ⟨hF, hN⟩ := hI
      obtain ⟨k, hk⟩ : ∃ k, pre.length = k := ⟨_, rfl⟩
      obtain ⟨n, hn⟩ : ∃ n, WL.length = n := ⟨_, rfl⟩
      have hTW := hTH.out
      have hTs := hTW.s6.lt
      have keep : ∀ {g : Nat} {ty : TypeId} {cs : Array Value}, Blk W0 g ty cs → g ≠ b12 → Blk W g ty cs := fun hb hne => (hF.block _ hb.lt hne (by simp)).trans hb
      have hrow : W.ownsRow w.heap.size 28 5 (.slice a WL.length c) WL.length (tv WL) := row_keep hTW.row (fun g hg => hF.block g (row_lt hTW.row hg) (fun e => row_off k12 (by decide) hTW.row (by rw [hg, e])) (by simp))
      have k4 := keep hTW.s4 (by omega)
      have y3 : W.cell? ⟨b3, 0, none⟩ = some (.int .i64 stop) := (keep hTW.s3 (by omega)).cell 0
      have y4 : W.cell? ⟨b3 + 1, 0, none⟩ = some (.bool false) := k4.cell 0
      have f4 : W.frozen? ⟨b3 + 1, 0, none⟩ = false := k4.frozen 0
      have y5 : W.cell? ⟨b5, 0, none⟩ = some (.slice a n c) := by rw [(keep hTW.s5 (by omega)).cell, hn]; rfl
      have y6 : W.cell? ⟨b5 + 1, 0, none⟩ = some (.int .i64 WE) := (keep hTW.s6 (by omega)).cell 0
      have y12 : W.cell? ⟨b12, 0, none⟩ = some (.int .i64 k) := by rw [hN.cell, hk]; rfl
      have f12 : W.frozen? ⟨b12, 0, none⟩ = false := hN.frozen 0
      have q0 : W.cell? ⟨q, 0, none⟩ = some (.int .i64 x.1.kind) := hbx.cell 0
      have q1 : W.cell? ⟨q, 1, none⟩ = some (.string x.1.text) := hbx.cell 1
      have q2 : W.cell? ⟨q, 2, none⟩ = some (.int .i64 x.1.place) := hbx.cell 2
      have q3 : W.cell? ⟨q, 3, none⟩ = some (.string x.1.doc) := hbx.cell 3
      have q4 : W.cell? ⟨q, 4, none⟩ = some (.bool x.1.raw) := hbx.cell 4
      have hnp := not_piece (x := x) (pre := pre) hlast
      rw [hk, ← hyl, hn] at hnp
      have hk1 : Hid ((pre ++ [x]).length = k + 1) := Lib.hid (by simp [hk])
      have hk64 : k ≤ 70000 := by
        have h1 := tag_len hlast
        rw [← hyl, hn] at h1
        have h2 := hn64.out
        omega
      rw [hn] at hrow
      have hFH := Lib.hid hF
      have k4H := Lib.hid k4
      have k12H := Lib.hid hN
      have hrowH := Lib.hid hrow
      have hnH := Lib.hid hn
      clear hF hN k4 hTW hTs keep hrow hbx hk hn hlen hyl
      by_cases hkn : k < n
      · obtain ⟨u, hu⟩ : ∃ u, WL[k]? = some u := ⟨WL[k]'(by have := hnH.out; omega), List.getElem?_eq_getElem _⟩
        obtain ⟨gr, rfl, hg0, hg1, hcell⟩ := row_form hnH.out.symm hrowH.out (by omega)
        obtain ⟨v0, v1, v2, v3, v4⟩ := hcell k u hu
        rw [hu] at hnp
        have huH := Lib.hid hu
        clear hcell hu
        have c1 : ¬ n ≤ k := by omega
        have c2 : decide (n ≤ k) = false := decide_eq_false c1
        by_cases htu : x.1 = u
        · obtain ⟨t, e⟩ := x
          subst htu
          dsimp only at q0 q1 q2 q3 q4 ⊢
          by_cases he : e = 0
          · subst he
            clear hnp
            gi_upto_region 17 with fail
            refine wpIn_region_quiet_round rfl (by kernel_rfl) (by kernel_rfl) (by kernel_rfl) ?_
            repeat (gi_big_quiet_step (fail))
            refine wpQuietIn_nil ?_
            intro _ hw'
            obtain ⟨nq, hw''⟩ := hw'
            subst hw''
            cases hst : ((k : Int) + 1 == stop)
            · gi_wp2
              exact ⟨((keepsOthers_drewN W _).trans (KeepsOthers.setCell _ _ _)).from _, (keepC_drewN W _).trans (keepC_set _ _ (.inl rfl) _), (hFH.out.drewN _).set_ _, by rw [hk1.out]; exact (k12H.out.drewN _).set_ 0 _⟩
            · gi_wp2
              exact ⟨((keepsOthers_drewN W _).trans ((KeepsOthers.setCell _ _ _).trans (KeepsOthers.setCell _ _ _))).from _, rfl, true, fr_end ((hFH.out.drewN _).set_ _) _, ((k4H.out.drewN _).far (by show b3 + 1 ≠ b12; omega) _).set_ 0 _, .inl rfl⟩
          · have hE := ne_err he
            obtain ⟨m, rfl⟩ : ∃ m, n = m + 1 := ⟨n - 1, by omega⟩
            by_cases hkm : k = m
            · subst hkm
              have c3 : ¬ ((k : Int) + 1 ≤ (k : Int)) := by omega
              have c4 : decide ((k : Int) + 1 ≤ (k : Int)) = false := decide_eq_false c3
              by_cases hew : e = WE
              · subst hew
                clear hnp
                gi_upto_region 17 with fail
                refine wpIn_region_quiet_round rfl (by kernel_rfl) (by kernel_rfl) (by kernel_rfl) ?_
                repeat (gi_big_quiet_step (fail))
                refine wpQuietIn_nil ?_
                intro _ hw'
                obtain ⟨nq, hw''⟩ := hw'
                subst hw''
                cases hst : ((k : Int) + 1 == stop)
                · gi_wp2
                  exact ⟨((keepsOthers_drewN W _).trans (KeepsOthers.setCell _ _ _)).from _, (keepC_drewN W _).trans (keepC_set _ _ (.inl rfl) _), (hFH.out.drewN _).set_ _, by rw [hk1.out]; exact (k12H.out.drewN _).set_ 0 _⟩
                · gi_wp2
                  exact ⟨((keepsOthers_drewN W _).trans ((KeepsOthers.setCell _ _ _).trans (KeepsOthers.setCell _ _ _))).from _, rfl, true, fr_end ((hFH.out.drewN _).set_ _) _, ((k4H.out.drewN _).far (by show b3 + 1 ≠ b12; omega) _).set_ 0 _, .inl rfl⟩
              · have hno : Hid (¬ pre ++ [(t, e)] <+: yieldsM s s.size 0) := Lib.hid (hnp (fun h => hew (h.2 he).2))
                have d1 : ((e : Int) == (WE : Int)) = false := beq_eq_false_iff_ne.2 (by omega)
                have d2 : (e == WE) = false := beq_eq_false_iff_ne.2 hew
                clear hnp
                gi_upto_region 17 with fail
                refine wpIn_region_quiet_round rfl (by kernel_rfl) (by kernel_rfl) (by kernel_rfl) ?_
                repeat (gi_big_quiet_step (fail))
                refine wpQuietIn_nil ?_
                intro _ hw'
                obtain ⟨nq, hw''⟩ := hw'
                subst hw''
                gi_wp2
                exact ⟨((keepsOthers_drewN W _).trans (KeepsOthers.setCell _ _ _)).from _, rfl, false, fr_end (hFH.out.drewN _) _, (k4H.out.drewN _).set_ 0 _, .inr hno.out⟩
            · have hno : Hid (¬ pre ++ [(t, e)] <+: yieldsM s s.size 0) := Lib.hid (hnp (fun h => hkm (by have := (h.2 he).1; omega)))
              have c3 : ¬ ((m : Int) + 1 ≤ (k : Int)) := by omega
              have c4 : decide ((m : Int) + 1 ≤ (k : Int)) = false := decide_eq_false c3
              have c5 : (k : Int) < (m : Int) + 1 := by omega
              have c6 : (k : Int) ≤ (m : Int) := by omega
              have c7 : k < m + 1 := by omega
              have c8 : m ≤ 70000 := by have := hn64.out; have := hnH.out; omega
              have c9 : (m : Int) ≤ 70000 := by omega
              have d3 : ((k : Int) != (m : Int)) = true := by simp; omega
              have d1 : ((k : Int) == (m : Int)) = false := beq_eq_false_iff_ne.2 (by omega)
              have d2 : (k == m) = false := beq_eq_false_iff_ne.2 hkm
              clear hnp
              gi_upto_region 17 with fail
              refine wpIn_region_quiet_round rfl (by kernel_rfl) (by kernel_rfl) (by kernel_rfl) ?_
              repeat (gi_big_quiet_step (fail))
              refine wpQuietIn_nil ?_
              intro _ hw'
              obtain ⟨nq, hw''⟩ := hw'
              subst hw''
              gi_wp2
              exact ⟨((keepsOthers_drewN W _).trans (KeepsOthers.setCell _ _ _)).from _, rfl, false, fr_end (hFH.out.drewN _) _, (k4H.out.drewN _).set_ 0 _, .inr hno.out⟩
        · have hno : Hid (¬ pre ++ [x] <+: yieldsM s s.size 0) := Lib.hid (hnp (fun h => htu (Option.some.inj h.1).symm))
          clear hnp
          rcases tk_ne htu with d1 | ⟨d1, d2⟩ | ⟨d1, d2, d3⟩ | ⟨d1, d2, d3, d4⟩ | ⟨d1, d2, d3, d4, d5⟩
          all_goals
            gi_upto_region 17 with fail
            refine wpIn_region_quiet_round rfl (by kernel_rfl) (by kernel_rfl) (by kernel_rfl) ?_
            repeat (gi_big_quiet_step (fail))
            refine wpQuietIn_nil ?_
            intro _ hw'
            obtain ⟨nq, hw''⟩ := hw'
            subst hw''
            gi_wp2
            exact ⟨((keepsOthers_drewN W _).trans (KeepsOthers.setCell _ _ _)).from _, rfl, false, fr_end (hFH.out.drewN _) _, (k4H.out.drewN _).set_ 0 _, .inr hno.out⟩
      · have hno : Hid (¬ pre ++ [x] <+: yieldsM s s.size 0) := Lib.hid (hnp (fun h => by
          have h9 := (List.getElem?_eq_some_iff.1 h.1).1
          have := hnH.out
          omega))
        have c1 : n ≤ k := by omega
        have c2 : decide (n ≤ k) = true := decide_eq_true c1
        clear hkn hnp
        gi_upto_region 17 with fail
        refine wpIn_region_quiet_round rfl (by kernel_rfl) (by kernel_rfl) (by kernel_rfl) ?_
        repeat (gi_big_quiet_step (fail))
        refine wpQuietIn_nil ?_
        intro _ hw'
        obtain ⟨nq, hw''⟩ := hw'
        subst hw''
        gi_wp2
        exact ⟨((keepsOthers_drewN W _).trans (KeepsOthers.setCell _ _ _)).from _, rfl, false, fr_end (hFH.out.drewN _) _, (k4H.out.drewN _).set_ 0 _, .inr hno.out⟩
    case done =>
      rintro D xs W hD rfl ⟨hF, hN⟩ hK
      have hTW := hTH.out
      have hTs := hTW.s6.lt
      have keep : ∀ {g : Nat} {ty : TypeId} {cs : Array Value}, Blk W0 g ty cs → g ≠ b12 → Blk W g ty cs := fun hb hne => (hF.block _ hb.lt hne (by simp)).trans hb
      have hlen : (yieldsM s s.size 0).length = WL.length := by rw [hyl]; exact tag_len hlast
      obtain ⟨n, hn⟩ : ∃ n, WL.length = n := ⟨_, rfl⟩
      have k4 := keep hTW.s4 (by omega)
      have y4 : W.cell? ⟨b3 + 1, 0, none⟩ = some (.bool false) := k4.cell 0
      have f4 : W.frozen? ⟨b3 + 1, 0, none⟩ = false := k4.frozen 0
      have y5 : W.cell? ⟨b5, 0, none⟩ = some (.slice a n c) := by rw [(keep hTW.s5 (by omega)).cell, hn]; rfl
      have y12 : W.cell? ⟨b12, 0, none⟩ = some (.int .i64 n) := by rw [hN.cell, hlen, hn]; rfl
      have hKH := Lib.hid hK
      have k4H := Lib.hid k4
      have hbH : Hid (Below w.heap.size w W) := Lib.hid (hTW.below.trans (hF.below (by omega) hTW.below.size (by simp)))
      clear hF hN keep hlen hyl hK k4 hTW
      gi_wp2
      have k5 := (KeepsOthers.setCell W ⟨b3 + 1, 0, none⟩ (.bool true)).same D _ hKH.out rfl
      have z2 : Blk ((W.setCell ⟨b3 + 1, 0, none⟩ (.bool true)).putObj D (.deferred none)) (b3 + 1) 4 #[.bool true] := (World.putObj_heap_other (by omega)).trans (k4H.out.set_ 0 _)
      have q3 : ((W.setCell ⟨b3 + 1, 0, none⟩ (.bool true)).putObj D (.deferred none)).cell? ⟨b3 + 1, 0, none⟩ = some (.bool true) := z2.cell 0
      refine ⟨by simp, .inl ⟨_, _, rfl, run_takeDeferred k5, ?_⟩⟩
      refine ⟨.bool true, ?_, ?_⟩
      · simp [results, Tryd.results3, go_sem, q3]
      · exact ⟨rfl, (hbH.out.setCell (p := ⟨b3 + 1, 0, none⟩) (by show w.heap.size ≤ b3 + 1; have := h3H.out; omega) _).trans (belowK_b (w := w) (Nat.le_refl _) _ D _ _ (by have := h3H.out; omega) k5 rfl rfl)⟩
    case stop =>
      rintro D c2 pre W hD hpre ⟨rfl, v, hF, k4, hv⟩ hK
      obtain rfl : v = true := by
        rcases hv with h | h
        · exact h
        · exact absurd hpre h
      have hTW := hTH.out
      have hTs := hTW.s6.lt
      have z2 : Blk (W.putObj D (.deferred none)) (b3 + 1) 4 #[.bool true] := (World.putObj_heap_other (by omega)).trans k4
      have q3 : (W.putObj D (.deferred none)).cell? ⟨b3 + 1, 0, none⟩ = some (.bool true) := z2.cell 0
      have hKH := Lib.hid hK
      have hbH : Hid (Below w.heap.size w W) := Lib.hid (hTW.below.trans (hF.below (by omega) hTW.below.size (fun g hg => by cases hg; omega)))
      clear hF k4 hK hTW hyl hv hpre z2
      gi_wp2
      refine ⟨by simp, .inl ⟨_, _, rfl, run_takeDeferred hKH.out, ?_⟩⟩
      refine ⟨.bool true, ?_, ?_⟩
      · simp [results, Tryd.results3, go_sem, q3]
      · exact ⟨rfl, hbH.out.trans (belowK_b (w := w) (Nat.le_refl _) _ D _ _ (by have := h3H.out; omega) hKH.out rfl rfl)⟩
theorem tokens_law (s : ByteArray) (stop : Int) (w : World) : Calls Tryd.prog 3 #[.string s, .int .i64 stop] w fun e w' => e = .returned (.bool true) ∧ Below w.heap.size w w' := callsIn_wide.1 (tokens_in s stop w)
end Go.Proofs.YtkakphiofahlgaaDoor
