/- Unset: a variable is taken away. Condition: the variables lie as stated. -/
import Derived.Test.YtklepnldoajghaaVarZ
import Derived.Test.YtklepnldoajghaaVarT
namespace Go.Proofs.Ytklepnldoajghaa
open Go.RowKit Go.PlainAid
attribute [local go_sem] Oper.semAt_some

def cutL (L : Vl) (x : ByteArray) : Vl := if has (ks L) x = true then L.eraseIdx (pos (ks L) x) else L
theorem ks_erase (L : Vl) (i : Nat) : ks (L.eraseIdx i) = (ks L).eraseIdx i := by unfold ks; simp [List.eraseIdx_eq_take_drop_succ, List.map_take, List.map_drop]
theorem vs_erase (L : Vl) (i : Nat) : vs (L.eraseIdx i) = (vs L).eraseIdx i := by unfold vs; simp [List.eraseIdx_eq_take_drop_succ, List.map_take, List.map_drop]
theorem sorted_erase {K : List ByteArray} (h : Sorted K) (i : Nat) : Sorted (K.eraseIdx i) := List.Pairwise.sublist (List.eraseIdx_sublist _ _) h

/-- How a call that takes away ends. -/
def EndsC (n₀ p : Nat) (L' : Vl) (A : List ByteArray) (kv vv av : Value) (w w' : World) : Prop :=
  ∃ kv' vv', VarsAt n₀ w' p L' A kv' vv' av ∧ Turned p kv vv w w' ∧ (∀ g, kv'.ownBlock = some g → kv.ownBlock = some g) ∧ (∀ g, vv'.ownBlock = some g → vv.ownBlock = some g)
theorem EndsC.ends {n₀ p : Nat} {L' : Vl} {A : List ByteArray} {kv vv av : Value} {w w' : World} (h : EndsC n₀ p L' A kv vv av w w') : Ends n₀ p L' A kv vv av w w' := by
  obtain ⟨a, b, h1, h2, h3, h4⟩ := h
  exact ⟨a, b, h1, h2, fun g hg => .inl (h3 g hg), fun g hg => .inl (h4 g hg)⟩

set_option maxHeartbeats 1000000 in
theorem cut_no {n₀ p : Nat} {L : Vl} {A : List ByteArray} {kv vv av : Value} (x : ByteArray) (w : World) (h : VarsAt n₀ w p L A kv vv av) (hh : has (ks L) x = false) :
    Calls Try.prog 37 #[.pointer (some ⟨p, 0, none⟩), .string x] w fun e w' => e = .returned (.tuple #[]) ∧ Below w.heap.size w w' := by
  obtain ⟨a0, n0, e0⟩ := ownsRow_slice h.keys
  have h0 : w.cell? ⟨p, 0, none⟩ = some (.slice a0 (ks L).length n0) := by rw [h.blk.cell 0, ← e0]; rfl
  have hcall := Lib.hid (search_any n₀ (ks L) x (.slice a0 (ks L).length n0) w (by rw [← e0]; exact h.keys) (by have := h.len; rw [ks_len]; omega) h.srt)
  have hhH := Lib.hid hh
  clear h hh e0
  go_enter Try.func37, Try.ntmps37
  go_wp2_with fail
  refine hcall.out.mono ?_
  rintro e W ⟨rfl, q, rfl⟩
  rw [hhH.out]
  go_wp2_with fail
  refine bodyPost_end (results_none rfl _ _ _) rfl ?_
  exact ⟨rfl, Below.drewN_ q (Below.refl _ _)⟩

/-- The keys' row and the slice turned in place. -/
theorem keys_turned {n₀ p m g : Nat} {L : Vl} {A K' : List ByteArray} {kv vv av kv' : Value} {W w1 : World} (h : VarsAt n₀ W p L A kv vv av) (e : kv.ownBlock = some g)
    (hr : w1.ownsRow n₀ 9 1 kv' m (flat kcs K')) (hg : W.grownBy w1 (some g)) :
    (Blk w1 p 65 #[kv, vv, av]) ∧ Blk (w1.setCell ⟨p, 0, none⟩ kv') p 65 #[kv', vv, av] ∧ (w1.setCell ⟨p, 0, none⟩ kv').ownsRow n₀ 9 1 kv' m (flat kcs K') ∧ (w1.setCell ⟨p, 0, none⟩ kv').ownsRow n₀ 68 4 vv (vs L).length (flat vcs (vs L)) ∧
      (w1.setCell ⟨p, 0, none⟩ kv').ownsRow n₀ 9 1 av A.length (flat kcs A) ∧ Turned p kv vv W (w1.setCell ⟨p, 0, none⟩ kv') := by
  have hpg : p ≠ g := fun e2 => row_off h.blk (by decide) h.keys (by rw [e2]; exact e.symm)
  have hp1 : Blk w1 p 65 #[kv, vv, av] := (hg.block p h.blk.lt (fun e2 => hpg (Option.some.inj e2))).trans h.blk
  have hfar : ∀ k, k ≠ p → (w1.setCell ⟨p, 0, none⟩ kv').heap[k]? = w1.heap[k]? := fun k hk => Below.heap_setCell _ _ _ k hk
  have hv1 : w1.ownsRow n₀ 68 4 vv (vs L).length (flat vcs (vs L)) := row_keep h.vals (fun k hk => hg.block k (row_lt h.vals hk) (by rw [← e]; exact row_row (by decide) h.vals h.keys hk))
  have ha1 : w1.ownsRow n₀ 9 1 av A.length (flat kcs A) := row_keep h.args (fun k hk => hg.block k (row_lt h.args hk) (fun e2 => h.apart g e (by rw [← e2]; exact hk)))
  have hrow : ∀ {t : TypeId} {n k : Nat} {v : Value} {xs : List Value}, w1.ownsRow n₀ t k v n xs → 65 ≠ t → (w1.setCell ⟨p, 0, none⟩ kv').ownsRow n₀ t k v n xs := fun {t n k v xs} hr ht =>
    row_keep hr (fun g hg => hfar g (fun e2 => by subst e2; exact row_off hp1 ht hr hg.symm))
  refine ⟨hp1, hp1.set_ 0 _, hrow hr (by decide), hrow hv1 (by decide), hrow ha1 (by decide), hg.os, hg.tape, hg.output, ?_, fun k hk h1 h2 _ => (hfar k h1).trans (hg.block k hk (by rw [← e]; exact h2))⟩
  have := hg.size
  simpa [World.setCell] using this

theorem Turned.trans {p : Nat} {kv vv : Value} {a b c : World} (h : Turned p kv vv a b) (k : Turned p kv vv b c) : Turned p kv vv a c :=
  ⟨k.os.trans h.os, k.tape.trans h.tape, k.output.trans h.output, Nat.le_trans h.size k.size, fun i hi h1 h2 h3 => (k.block i (Nat.lt_of_lt_of_le hi h.size) h1 h2 h3).trans (h.block i hi h1 h2 h3)⟩
/-- The values' row and the slice turned in place. -/
theorem vals_turned {n₀ p m mv ma ml g : Nat} {A K' : List ByteArray} {V V' : List Vb} {kv vv av kv' vv' : Value} {W w1 : World} (hb : Blk W p 65 #[kv', vv, av]) (hk : W.ownsRow n₀ 9 1 kv' m (flat kcs K')) (hv : W.ownsRow n₀ 68 4 vv ml (flat vcs V)) (ha : W.ownsRow n₀ 9 1 av ma (flat kcs A)) (e : vv.ownBlock = some g)
    (hr : w1.ownsRow n₀ 68 4 vv' mv (flat vcs V')) (hg : W.grownBy w1 (some g)) :
    (Blk w1 p 65 #[kv', vv, av]) ∧ Blk (w1.setCell ⟨p, 1, none⟩ vv') p 65 #[kv', vv', av] ∧ (w1.setCell ⟨p, 1, none⟩ vv').ownsRow n₀ 9 1 kv' m (flat kcs K') ∧ (w1.setCell ⟨p, 1, none⟩ vv').ownsRow n₀ 68 4 vv' mv (flat vcs V') ∧
      (w1.setCell ⟨p, 1, none⟩ vv').ownsRow n₀ 9 1 av ma (flat kcs A) ∧ Turned p kv vv W (w1.setCell ⟨p, 1, none⟩ vv') := by
  have hpg : p ≠ g := fun e2 => row_off hb (by decide) hv (by rw [e2]; exact e.symm)
  have hp1 : Blk w1 p 65 #[kv', vv, av] := (hg.block p hb.lt (fun e2 => hpg (Option.some.inj e2))).trans hb
  have hfar : ∀ k, k ≠ p → (w1.setCell ⟨p, 1, none⟩ vv').heap[k]? = w1.heap[k]? := fun k hk => Below.heap_setCell _ _ _ k hk
  have hk1 : w1.ownsRow n₀ 9 1 kv' m (flat kcs K') := row_keep hk (fun k hkk => hg.block k (row_lt hk hkk) (by rw [← e]; exact row_row (by decide) hk hv hkk))
  have ha1 : w1.ownsRow n₀ 9 1 av ma (flat kcs A) := row_keep ha (fun k hkk => hg.block k (row_lt ha hkk) (by rw [← e]; exact row_row (by decide) ha hv hkk))
  have hrow : ∀ {t : TypeId} {n k : Nat} {v : Value} {xs : List Value}, w1.ownsRow n₀ t k v n xs → 65 ≠ t → (w1.setCell ⟨p, 1, none⟩ vv').ownsRow n₀ t k v n xs := fun {t n k v xs} hr ht =>
    row_keep hr (fun g hg => hfar g (fun e2 => by subst e2; exact row_off hp1 ht hr hg.symm))
  refine ⟨hp1, hp1.set_ 1 _, hrow hk1 (by decide), hrow hr (by decide), hrow ha1 (by decide), hg.os, hg.tape, hg.output, ?_, fun k hk h1 _ h3 => (hfar k h1).trans (hg.block k hk (by rw [← e]; exact h3))⟩
  have := hg.size
  simpa [World.setCell] using this

set_option maxHeartbeats 2000000 in
theorem cut_yes {n₀ p : Nat} {L : Vl} {A : List ByteArray} {kv vv av : Value} (x : ByteArray) (w : World) (h : VarsAt n₀ w p L A kv vv av) (hh : has (ks L) x = true) :
    Calls Try.prog 37 #[.pointer (some ⟨p, 0, none⟩), .string x] w fun e w' => e = .returned (.tuple #[]) ∧ EndsC n₀ p (L.eraseIdx (pos (ks L) x)) A kv vv av w w' := by
  obtain ⟨a0, n0, e0⟩ := ownsRow_slice h.keys
  obtain ⟨a1, n1, e1⟩ := ownsRow_slice h.vals
  have h0 : w.cell? ⟨p, 0, none⟩ = some (.slice a0 (ks L).length n0) := by rw [h.blk.cell 0, ← e0]; rfl
  have hcall := Lib.hid (search_any n₀ (ks L) x (.slice a0 (ks L).length n0) w (by rw [← e0]; exact h.keys) (by have := h.len; rw [ks_len]; omega) h.srt)
  have hlt := has_lt hh
  obtain ⟨i, hi⟩ : ∃ i, pos (ks L) x = i := ⟨_, rfl⟩
  rw [hi] at hlt hcall ⊢
  have hl64 := h.len
  have hltv : i < (vs L).length := by rw [vs_len, ← ks_len]; exact hlt
  have hiL : i < L.length := by rw [← ks_len]; exact hlt
  have hc1 := Lib.hid (fun (W : World) (hr : W.ownsRow n₀ 9 1 kv (ks L).length (flat kcs (ks L))) => delete_k n₀ (ks L) i kv W hlt hr (by rw [ks_len]; omega))
  have hc2 := Lib.hid (fun (W : World) (hr : W.ownsRow n₀ 68 4 vv (vs L).length (flat vcs (vs L))) => delete_v n₀ (vs L) i vv W hltv hr (by rw [vs_len]; omega))
  have hw1 : IntKind.i64.wrap ((i : Int) + 1) = (i : Int) + 1 := by rw [IntKind.wrap_i64]; rw [ks_len] at hlt; omega
  have hH := Lib.hid h
  have hhH := Lib.hid hh
  have e0H := Lib.hid e0
  have e1H := Lib.hid e1
  have hw1H := Lib.hid hw1
  clear h hh e0 e1 hi hw1
  go_enter Try.func37, Try.ntmps37
  go_wp2_with fail
  refine hcall.out.mono ?_
  rintro e W ⟨rfl, q, rfl⟩
  rw [hhH.out]
  have hVW := Lib.hid (hH.out.beneath (w1 := w.drewN q) (Below.drewN_ q (Below.refl _ _)))
  have p0 : (w.drewN q).cell? ⟨p, 0, none⟩ = some (.slice a0 (ks L).length n0) := by rw [hVW.out.blk.cell 0, ← e0H.out]; rfl
  obtain ⟨W, hW⟩ : ∃ W, w.drewN q = W := ⟨_, rfl⟩
  have hBW : Hid (Below w.heap.size w W) := Lib.hid (by rw [← hW]; exact Below.drewN_ q (Below.refl _ _))
  rw [hW] at hVW p0 ⊢
  clear hW h0
  go_wp2_with fail
  have hcd := hc1.out W hVW.out.keys
  rw [e0H.out] at hcd
  refine hcd.mono ?_
  rintro e w1 ⟨g1, c1, ek, rfl, hk1, hg1⟩
  have ekv : kv.ownBlock = some g1 := by rw [e0H.out, ek]; rfl
  obtain ⟨hp1, hpB, hkB, hvB, haB, htB⟩ := keys_turned hVW.out ekv (kv' := .slice (some ⟨g1, 0, none⟩) ((ks L).length - 1) c1) hk1 hg1
  have q0 : w1.cell? ⟨p, 0, none⟩ = some kv := hp1.cell 0
  have q0' : w1.frozen? ⟨p, 0, none⟩ = false := hp1.frozen 0
  obtain ⟨nk, hnk⟩ : ∃ nk, (ks L).length - 1 = nk := ⟨_, rfl⟩
  rw [hnk] at hpB hkB hvB haB htB ⊢
  obtain ⟨W1, hW1⟩ : ∃ W1, w1.setCell ⟨p, 0, none⟩ (.slice (some ⟨g1, 0, none⟩) nk c1) = W1 := ⟨_, rfl⟩
  have q1 : W1.cell? ⟨p, 1, none⟩ = some (.slice a1 (vs L).length n1) := by rw [← hW1, hpB.cell 1, ← e1H.out]; rfl
  rw [hW1] at hpB hkB hvB haB htB
  have hpBH := Lib.hid hpB
  have hkBH := Lib.hid hkB
  have hvBH := Lib.hid hvB
  have haBH := Lib.hid haB
  have htBH := Lib.hid htB
  have hW1H := Lib.hid hW1
  have ekvH := Lib.hid ekv
  have hnkH := Lib.hid hnk
  clear hcd hk1 hg1 ek hp1 hpB hkB hvB haB htB hW1 ekv hnk p0
  go_wp2_with (rw [hW1H.out])
  have hcd := hc2.out W1 hvBH.out
  rw [e1H.out] at hcd
  refine hcd.mono ?_
  rintro e w2 ⟨g2, c2, ek, rfl, hv2, hg2⟩
  have evv : vv.ownBlock = some g2 := by rw [e1H.out, ek]; rfl
  obtain ⟨hp2, hpC, hkC, hvC, haC, htC⟩ := vals_turned (kv := kv) hpBH.out hkBH.out hvBH.out haBH.out evv (vv' := .slice (some ⟨g2, 0, none⟩) ((vs L).length - 1) c2) hv2 hg2
  have q2 : w2.cell? ⟨p, 1, none⟩ = some vv := hp2.cell 1
  have q2' : w2.frozen? ⟨p, 1, none⟩ = false := hp2.frozen 1
  have hpCH := Lib.hid hpC
  have hkCH := Lib.hid hkC
  have hvCH := Lib.hid hvC
  have haCH := Lib.hid haC
  have htCH := Lib.hid htC
  have evvH := Lib.hid evv
  clear hcd hv2 hg2 ek hp2 hpC hkC hvC haC htC evv q1
  go_wp2_with fail
  refine bodyPost_end (results_none rfl _ _ _) rfl ?_
  have hV := hH.out
  have hnk := hnkH.out
  have hll : (L.eraseIdx i).length = L.length - 1 := by rw [List.length_eraseIdx, if_pos hiL]
  have hkl : (ks L).length = L.length := ks_len L
  have hvl : (vs L).length = L.length := vs_len L
  refine ⟨rfl, _, _, ⟨hpCH.out, hV.base, ?_, ?_, haCH.out, ?_, ?_, ?_, hV.alen⟩, ?_, ?_, ?_⟩
  · rw [ks_erase, List.length_eraseIdx, if_pos hlt, hnk]; exact hkCH.out
  · rw [vs_erase, List.length_eraseIdx, if_pos hltv]; exact hvCH.out
  · intro g hg
    obtain rfl : g1 = g := by simpa [Value.ownBlock] using hg
    exact hV.apart g1 ekvH.out
  · rw [ks_erase]; exact sorted_erase hV.srt i
  · rw [hll]; omega
  · exact (Turned.of hBW.out).trans (htBH.out.trans htCH.out)
  · intro g hg
    obtain rfl : g1 = g := by simpa [Value.ownBlock] using hg
    exact ekvH.out
  · intro g hg
    obtain rfl : g2 = g := by simpa [Value.ownBlock] using hg
    exact evvH.out

def unsetE (L : Vl) (x : ByteArray) : Int := if isName x = false then 22 else if (got L x).ro = true then 63 else 0
def unsetR (L : Vl) (x : ByteArray) : Vl := if unsetE L x = 0 then cutL L x else L

set_option maxHeartbeats 4000000 in
theorem Unset_any {n₀ p : Nat} {L : Vl} {A : List ByteArray} {kv vv av : Value} (x : ByteArray) (w : World) (h : VarsAt n₀ w p L A kv vv av) (hx : x.size ≤ maxLen) :
    Calls Try.prog 12 #[.pointer (some ⟨p, 0, none⟩), .string x] w fun e w' => e = .returned (.int .i64 (unsetE L x)) ∧ Ends n₀ p (unsetR L x) A kv vv av w w' := by
  have hH := Lib.hid h
  cases hnm : isName x with
  | false =>
    have hE : Hid (unsetE L x = 22) := Lib.hid (by unfold unsetE; rw [if_pos hnm])
    have hR : Hid (unsetR L x = L) := Lib.hid (by unfold unsetR; rw [hE.out]; rfl)
    have hnmH := Lib.hid hnm
    clear h hnm
    go_enter Try.func12, Try.ntmps12
    go_wp2_with (go_at_call 29; refine (name_any x _ hx).mono ?_; rintro e w' ⟨rfl, rfl⟩; rw [hnmH.out])
    go_ret
    exact ⟨by rw [hE.out]; rfl, by rw [hR.out]; exact .same hH.out (Below.refl _ _)⟩
  | true =>
    obtain ⟨y, hy⟩ : ∃ y, got L x = y := ⟨_, rfl⟩
    have hyH := Lib.hid hy
    have hnmH := Lib.hid hnm
    cases hro : y.ro with
    | true =>
      have hE : Hid (unsetE L x = 63) := Lib.hid (by unfold unsetE; rw [if_neg (by rw [hnm]; simp), if_pos (by rw [hy]; exact hro)])
      have hR : Hid (unsetR L x = L) := Lib.hid (by unfold unsetR; rw [hE.out]; rfl)
      clear h hnm hy
      go_enter Try.func12, Try.ntmps12
      go_wp2_with (go_at_call 29; refine (name_any x _ hx).mono ?_; rintro e w' ⟨rfl, rfl⟩; rw [hnmH.out])
      refine (get_any x w hH.out.ord).mono ?_
      rintro e W ⟨rfl, hB⟩
      rw [hyH.out]
      unfold vcs
      have hBH := Lib.hid hB
      clear hB
      go_wp2_with fail
      go_ret
      exact ⟨by rw [hE.out]; rfl, by rw [hR.out]; exact .same hH.out (hBH.out.alloc hBH.out.size _)⟩
    | false =>
      have hE : Hid (unsetE L x = 0) := Lib.hid (by unfold unsetE; rw [if_neg (by rw [hnm]; simp), if_neg (by rw [hy, hro]; simp)])
      have hR : Hid (unsetR L x = cutL L x) := Lib.hid (by unfold unsetR; rw [if_pos hE.out])
      cases hh : has (ks L) x with
      | false =>
        have hC : Hid (cutL L x = L) := Lib.hid (by unfold cutL; rw [hh]; rfl)
        have hhH := Lib.hid hh
        clear h hnm hy hh
        go_enter Try.func12, Try.ntmps12
        go_wp2_with (go_at_call 29; refine (name_any x _ hx).mono ?_; rintro e w' ⟨rfl, rfl⟩; rw [hnmH.out])
        refine (get_any x w hH.out.ord).mono ?_
        rintro e W ⟨rfl, hB⟩
        rw [hyH.out]
        unfold vcs
        have hB' := hB.alloc hB.size (Obj.cells #[.string y.val, .bool y.st, .bool y.ex, .bool y.ro] 68)
        have hBH := Lib.hid hB'
        have hVW := Lib.hid (hH.out.beneath hB')
        clear hB hB'
        go_wp2_with fail
        rw [hro] at hVW hBH
        refine (cut_no x _ hVW.out hhH.out).mono ?_
        rintro e W2 ⟨rfl, hB2⟩
        have hB2H := Lib.hid hB2
        clear hB2
        go_wp2_with fail
        go_ret
        exact ⟨by rw [hE.out]; rfl, by rw [hR.out, hC.out]; exact .same hH.out (hBH.out.trans (hB2H.out.mono hBH.out.size))⟩
      | true =>
        have hC : Hid (cutL L x = L.eraseIdx (pos (ks L) x)) := Lib.hid (by unfold cutL; rw [hh]; rfl)
        have hhH := Lib.hid hh
        clear h hnm hy hh
        go_enter Try.func12, Try.ntmps12
        go_wp2_with (go_at_call 29; refine (name_any x _ hx).mono ?_; rintro e w' ⟨rfl, rfl⟩; rw [hnmH.out])
        refine (get_any x w hH.out.ord).mono ?_
        rintro e W ⟨rfl, hB⟩
        rw [hyH.out]
        unfold vcs
        have hB' := hB.alloc hB.size (Obj.cells #[.string y.val, .bool y.st, .bool y.ex, .bool y.ro] 68)
        have hBH := Lib.hid hB'
        have hVW := Lib.hid (hH.out.beneath hB')
        clear hB hB'
        go_wp2_with fail
        rw [hro] at hVW hBH
        refine (cut_yes x _ hVW.out hhH.out).mono ?_
        rintro e W2 ⟨rfl, hB2⟩
        have hB2H := Lib.hid hB2
        clear hB2
        go_wp2_with fail
        go_ret
        exact ⟨by rw [hE.out]; rfl, by rw [hR.out, hC.out]; exact .pre hBH.out hB2H.out.ends⟩
end Go.Proofs.Ytklepnldoajghaa
