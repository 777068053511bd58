/- What a name is worth; what is assigned: contracts. Condition: the maker lies as stated. -/
import Derived.Test.YtjbmpockoicgmaaGreatArK
import Derived.Deep.QuietTactic
import Derived.Maps.AppendAt
namespace Go.Proofs.YtjbmpockoicgmaaGreat
open Go.RowKit Go.Shelf Go.PlainAid
set_option linter.unusedVariables false
set_option linter.unusedSimpArgs false
attribute [local go_sem] Oper.semAt_some

set_option maxRecDepth 100000 in
set_option maxHeartbeats 4000000 in
theorem value_any {S : Nat → Prop} {np : Nat} {w : World} {m : Nm} (h : NAt S np w m) (nm : ByteArray) (hn : nm.size ≤ 9223372036854775807) :
    Calls Tryz.prog 92 #[.pointer (some ⟨np, 0, none⟩), .string nm] w fun e w' => e = .returned (.tuple #[.int .i64 (valI m nm).1.1, .int .i64 (valI m nm).2]) ∧ Below w.heap.size w w' := by
  obtain ⟨mt, nt, mn, va, vc, sv, h⟩ := h
  have c0 : w.cell? ⟨np, 0, none⟩ = some (.map (some mt)) := h.blk.cell 0
  have c1 : w.cell? ⟨np, 1, none⟩ = some (.slice va m.vars.length vc) := h.blk.cell 1
  have c2 : w.cell? ⟨np, 2, none⟩ = some (.map (some mn)) := h.blk.cell 2
  have l1 := h.now.look (t := 34) Tryz.underlying34 und2 (zero2 w) nm hn
  have l2 := h.texts.look (t := 45) Tryz.underlying45 und3 (zero3 w) nm hn
  have hv := Lib.hid (show valI m nm = (match m.now nm with
    | some x => (x, 0)
    | none => match idxM m.vars nm with
      | none => (zI, 0)
      | some i => worthM ((m.vars[i]?.map (·.val)).getD noT)) from rfl)
  cases hN : m.now nm with
  | some x =>
    rw [hN] at l1 hv
    dsimp only [Option.map, Option.getD, Option.isSome] at l1
    have hvH := hv
    clear hN l2 c1
    go_enter Tryz.func92, Tryz.ntmps92
    go_wp2
    go_ret2
    rw [hv.out]
    exact ⟨rfl, Below.refl _ _⟩
  | none =>
    rw [hN] at l1 hv
    dsimp only [Option.map, Option.getD, Option.isSome] at l1 hv
    cases hI : idxM m.vars nm with
    | none =>
      rw [hI] at l2 hv
      dsimp only [Option.map, Option.getD, Option.isSome] at l2 hv
      clear hN hI c1
      go_enter Tryz.func92, Tryz.ntmps92
      go_wp2
      go_ret2
      rw [hv.out]
      exact ⟨rfl, Below.refl _ _⟩
    | some i =>
      rw [hI] at l2 hv
      obtain ⟨v, hvi⟩ := idx_lt hI
      have hlt : i < m.vars.length := (List.getElem?_eq_some_iff.1 hvi).1
      obtain ⟨hl1, hl2, hl3⟩ := h.vars
      obtain ⟨g, o, rfl, hg1, hg2, hcell⟩ := hl3 (fun e => by rw [e] at hlt; simp at hlt)
      have cv : w.cell? ⟨g, o + i * 5 + 1, none⟩ = some (.string v.val) := hcell i v hvi 1 _ rfl
      have hsz := (hl2 v (List.mem_of_getElem? hvi)).2
      dsimp only at hv
      rw [hvi] at hv
      dsimp only [Option.map, Option.getD, Option.isSome, Int.ofNat_eq_natCast] at l2 hv
      have hwo := Lib.hid (fun w => worth_any v.val w hsz)
      obtain ⟨L, hL⟩ : ∃ L, m.vars.length = L := ⟨_, rfl⟩
      rw [hL] at hlt c1 hl1
      clear hN hI hvi hl2 hl3 hcell hL h
      go_enter Tryz.func92, Tryz.ntmps92
      go_wp2_with (go_at_call 96; refine (hwo.out _).mono ?_; rintro e w' ⟨rfl, hb1⟩)
      go_ret2
      rw [hv.out]
      exact ⟨rfl, hb1⟩

theorem row_ge0 {w : World} {M : Nat} {e : TypeId} {size : Nat} {v : Value} {n : Nat} {xs : List Value} (h : w.ownsRow M e size v n xs) : ∃ a c, v = .slice a n c := by
  rcases h.2 with ⟨rfl, rfl⟩ | ⟨g, cap, _, rfl, _⟩
  · exact ⟨none, 0, rfl⟩
  · exact ⟨_, cap, rfl⟩
set_option maxRecDepth 100000 in
set_option maxHeartbeats 4000000 in
theorem assign_any {S : Nat → Prop} {np : Nat} {w : World} {m : Nm} (h : NAt S np w m) (hS : ∀ g, S g → g < w.heap.size) (nm : ByteArray) (hn : nm.size ≤ 9223372036854775807) (x : I64) (hl : m.sets.length < 200000) :
    Calls Tryz.prog 88 #[.pointer (some ⟨np, 0, none⟩), .string nm, .int .i64 x.1] w fun e w' => e = .returned (.tuple #[]) ∧ ∃ S', NAt S' np w' (asnI m nm x) ∧ Fr S w S' w' ∧ (∀ g, S' g → g < w'.heap.size) ∧ (∀ g, S g → S' g) ∧ (∀ g t cs, Blk w g t cs → t ≠ 47 → t ≠ 37 → Blk w' g t cs) := by
  obtain ⟨mt, nt, mn, va, vc, sv, h⟩ := h
  obtain ⟨i0, hi0, hz0, hz1, hz2⟩ := info_parts infoS
  obtain ⟨av, cv, rfl⟩ := row_ge0 h.sets
  obtain ⟨w1, hrun, hmap, hg1⟩ := h.now.put (t := 34) Tryz.underlying34 und2 nm hn x.1 x.2 (by unfold maxLen; omega)
  have hnpm : np ≠ mn := fun e => h.now.not_cells (by rw [← e]; exact h.blk)
  have hmtm : mt ≠ mn := fun e => h.smt (by rw [e]; exact h.smn)
  have hB1 : Blk w1 np 47 #[.map (some mt), .slice va m.vars.length vc, .map (some mn), .slice av m.sets.length cv] := (hg1.block np h.blk.lt (fun e => hnpm (Option.some.inj e))).trans h.blk
  have hsv1 : ∀ g, (Value.slice av m.sets.length cv).ownBlock = some g → g ≠ mn := fun g hg e => by
    subst e
    rcases h.sets.2 with ⟨h9, _⟩ | ⟨g1, cap, cur, h9, _, hb, _⟩
    · rw [h9] at hg; simp [Value.ownBlock] at hg
    · rw [h9] at hg
      obtain rfl : g1 = g := by simpa [Value.ownBlock] using hg
      exact h.now.not_cells hb
  have hR1 : w1.ownsRow 0 37 2 (.slice av m.sets.length cv) m.sets.length (flat scs m.sets) := row_keep h.sets (fun g hg => hg1.block g (row_lt h.sets hg) (fun e => hsv1 g hg (Option.some.inj e)))
  have hoff := Lib.hid (fun (e : (Value.slice av m.sets.length cv).ownBlock = some np) => row_off h.blk (by decide) h.sets e.symm)
  have hmnr := Lib.hid hsv1
  obtain ⟨k, hk⟩ : ∃ k, m.sets.length = k := ⟨_, rfl⟩
  obtain ⟨x0, hx⟩ := x
  dsimp only at hrun
  have c2 : w.cell? ⟨np, 2, none⟩ = some (.map (some mn)) := h.blk.cell 2
  have d3 : w1.cell? ⟨np, 3, none⟩ = some (.slice av m.sets.length cv) := hB1.cell 3
  have f3 : w1.frozen? ⟨np, 3, none⟩ = false := hB1.frozen 3
  obtain ⟨W2, hW2⟩ : ∃ W2, w1.alloc (.cells #[.string nm, .int .i64 x0] 37) = W2 := ⟨_, rfl⟩
  have hb2 : Below w1.heap.size w1 W2 := by rw [← hW2]; exact alB _ _
  have hs2 : W2.heap.size = w1.heap.size + 1 := by rw [← hW2]; simp
  have hR2 := Lib.hid (show W2.ownsRow 0 37 2 (.slice av m.sets.length cv) m.sets.length (flat scs m.sets) by rw [← hW2]; exact hR1.alloc _)
  have hN2 := Lib.hid (show Blk W2 w1.heap.size 37 #[.string nm, .int .i64 x0] by rw [← hW2]; exact Blk.new _ _ _)
  have hB2 := Lib.hid (blk_beneath hB1 hb2)
  rw [hk] at d3 hR2 hB2 hl hoff hmnr
  have hkH := Lib.hid hk
  have hhH := Lib.hid h
  have hmapH := Lib.hid hmap
  have hg1H := Lib.hid hg1
  have hb2H := Lib.hid hb2
  have hSH := Lib.hid hS
  have hsz1 := hg1.size
  have hnpl := h.blk.lt
  clear hk h hmap hg1 hb2 hS hB1 hR1 hsv1
  go_enter Tryz.func88, Tryz.ntmps88
  go_wp2_with (first | rw [hW2] | (at_builtin; refine wpList_append_own_at _ rfl _ _ 24 rfl 0 37 i0 _ 2 24 Tryz.underlying24 hi0 hz0 hz1 hz2 rfl (by decide) (.slice av k cv) k (flat scs m.sets) (by rfl) hR2.out ⟨w1.heap.size, 0, none⟩ 1 1 (scs (nm, ⟨x0, hx⟩)) (by rfl) (by rfl) (fun j u hj => (by rw [Addr.add_lit, Nat.zero_add, hN2.out.cell j]; simpa [scs] using hj)) (fun u hu => scs_one [(nm, ⟨x0, hx⟩)] u (by simpa [flat] using hu)) (by unfold maxLen; omega) (by omega) (by omega) ?_; intro v5 w5 hown5 hgr5 _ hat5; obtain ⟨a5, c5, rfl⟩ := row_ge0 hown5; have hgrH := Lib.hid hgr5; have hownH := Lib.hid hown5; have hatH := Lib.hid hat5; have hC5 := (hgr5.block np (by omega) (fun e => hoff.out e.symm)).trans hB2.out; have y5 : w5.cell? ⟨np, 3, none⟩ = some (.slice av k cv) := Blk.cell hC5 3; have g5 : w5.frozen? ⟨np, 3, none⟩ = false := Blk.frozen hC5 3; have hC5H := Lib.hid hC5; clear hown5 hgr5 hat5 hC5))
  go_end0
  have h := hhH.out
  have hb2 := hb2H.out
  have hg1 := hg1H.out
  have hk := hkH.out
  have hfar : ∀ g, g < w.heap.size → g ≠ np → g ≠ mn → (Value.slice av k cv).ownBlock ≠ some g → (w5.setCell ⟨np, 3, none⟩ (.slice a5 (k + 1) c5)).heap[g]? = w.heap[g]? := fun g h1 h2 h3 h4 =>
    (Below.heap_setCell _ _ _ _ (fun e => h2 e)).trans ((hgrH.out.block g (by omega) (fun e => h4 e.symm)).trans ((hb2.block g (by omega)).trans (hg1.block g h1 (fun e => h3 (Option.some.inj e)))))
  have hsvS : ∀ g, (Value.slice av k cv).ownBlock = some g → S g := fun g hg => h.ssv g (by rw [hk]; exact hg)
  have hsz5 := hgrH.out.size
  refine ⟨rfl, fun g => S g ∨ (W2.heap.size = g ∧ (Value.slice a5 (k + 1) c5).ownBlock = some g), ⟨mt, nt, mn, va, vc, .slice a5 (k + 1) c5, ?_, ?_, ?_, ?_, ?_, .inl h.snp, .inl h.smn, ?_, ?_⟩, ⟨?_, ?_, ?_, ?_, ?_, ?_⟩, ?_, fun g hg => .inl hg, fun g t cs hB ht1 ht2 => (hfar g hB.lt (fun e => ?_) (fun e => ?_) (fun e => ?_)).trans hB⟩
  · have h9 : Blk w5 np 47 _ := hC5H.out
    have h8 := h9.set_ 3 (.slice a5 (k + 1) c5)
    have e9 : (asnI m nm ⟨x0, hx⟩).vars.length = m.vars.length := rfl
    exact h8
  · exact h.texts.heap (hfar mt h.texts.lt (fun e => h.texts.not_cells (by rw [e]; exact h.blk)) hmtm (fun e => h.smt (hsvS _ e)))
  · have h9 := hmapH.out.heap (w' := w5.setCell ⟨np, 3, none⟩ (.slice a5 (k + 1) c5)) ((Below.heap_setCell _ _ _ _ (fun e => hnpm e.symm)).trans ((hgrH.out.block mn (by have := hmapH.out.lt; omega) (fun e => hmnr.out mn e.symm rfl)).trans (hb2.block mn hmapH.out.lt)))
    have e9 : (asnI m nm ⟨x0, hx⟩).sets.length = m.sets.length + 1 := by show (m.sets ++ [_]).length = _; simp
    rw [e9]
    refine h9.congr (fun y => ?_)
    show ((if y = nm then some (⟨x0, hx⟩ : I64) else m.now y).map (·.1)) = _
    split <;> rfl
  · have e9 : (asnI m nm ⟨x0, hx⟩).sets.length = k + 1 := by rw [← hk]; show (m.sets ++ [_]).length = _; simp
    have e8 : flat scs (asnI m nm ⟨x0, hx⟩).sets = flat scs m.sets ++ scs (nm, ⟨x0, hx⟩) := by show flat scs (m.sets ++ [_]) = _; rw [flat_append]; simp [flat]
    rw [e9, e8]
    exact row_keep hownH.out (fun g hg => Below.heap_setCell _ _ _ _ (fun e => by
      obtain rfl : g = np := e
      exact row_off (show Blk w5 g _ _ from hC5H.out) (by decide) hownH.out hg.symm))
  · have hv : VAt S w va (asnI m nm ⟨x0, hx⟩).vars := h.vars
    exact hv.keep (by rw [World.size_setCell]; omega) (fun g h1 h2 => hfar g h1 (fun e => h2 (by rw [e]; exact h.snp)) (fun e => h2 (by rw [e]; exact h.smn)) (fun e => h2 (hsvS g e))) (fun g hg => hg.imp id (fun e => by have := e.1; omega))
  · exact fun e => e.elim h.smt (fun e => by have := h.texts.lt; have := e.1; omega)
  · intro g hg
    rcases hatH.out with h9 | h9
    · exact .inl (hsvS g (h9 ▸ hg))
    · exact .inr ⟨Option.some.inj (h9.symm.trans hg), hg⟩
  · exact hgrH.out.os.trans (hb2.os.trans hg1.os)
  · exact hgrH.out.tape.trans (hb2.tape.trans hg1.tape)
  · exact hgrH.out.output.trans (hb2.output.trans hg1.output)
  · rw [World.size_setCell]; omega
  · exact fun g h1 h2 => hfar g h1 (fun e => h2 (by rw [e]; exact h.snp)) (fun e => h2 (by rw [e]; exact h.smn)) (fun e => h2 (hsvS g e))
  · exact fun g hg => hg.imp id (fun e => by have := e.1; omega)
  · intro g hg
    rw [World.size_setCell]
    rcases hg with hg | ⟨_, hg⟩
    · have := hSH.out g hg; omega
    · exact row_lt hownH.out hg
  · subst e
    have h9 := hB.symm.trans h.blk
    simp at h9
    exact ht1 h9.2
  · subst e; exact h.now.not_cells hB
  · exact row_off hB ht2 h.sets (by rw [hk]; exact e.symm)
end Go.Proofs.YtjbmpockoicgmaaGreat
