/- A register: search, find, get, count, put, cut. Condition: it lies as stated. -/
import Derived.Test.YtmilagppbepnbaaGreatKrC
namespace Go.Proofs.YtmilagppbepnbaaGreat.RR
open Go.RowKit Go.PlainAid
set_option linter.unusedVariables false
set_option linter.unusedSimpArgs false
attribute [local go_sem] Oper.semAt_some
theorem infoR : (Tryz.prog.info? 166).map (fun i => (i.zero, i.size, i.bytes)) = some (some (.agg #[.int .i64 0, .pointer none]), 2, 16) := by kernel_rfl
theorem cmp_any (a : Nat) (b : Nat) (x : Int) (w : World) : Calls Tryz.prog 166 #[.agg #[.int .i64 a, .pointer (some ⟨b, 0, none⟩)], .int .i64 x] w fun e w' => e = .returned (.int .i64 (cmpI a x)) ∧ Below w.heap.size w w' := by
  go_enter Tryz.func166, Tryz.ntmps166
  go_wp2_with (go_at_call 167; refine (compare_int _ _ _).mono ?_; rintro e w' ⟨rfl, rfl⟩)
  go_ret
  exact ⟨rfl, (Below.refl _ _).alloc (Nat.le_refl _) _⟩
set_option maxHeartbeats 4000000 in
set_option maxRecDepth 100000 in
theorem search_any (l : List Rw) (x : Int) (ev : Value) (w : World) (hrow : w.ownsRow 0 166 2 ev l.length (flat rcs l)) (hlen : l.length ≤ 1000000) (hs : Ord l) :
    Calls Tryz.prog 165 #[ev, .int .i64 x, .func (.func 166) #[] #[]] w fun e w' => e = .returned (.tuple #[.int .i64 (posN l x : Nat), .bool (hasN l x)]) ∧ Below w.heap.size w w' := by
  obtain ⟨n, hn⟩ : ∃ n, l.length = n := ⟨_, rfl⟩
  obtain ⟨a, c, rfl⟩ := ownsRow_slice hrow
  have hat : ∀ (i : Nat) (y : Rw), l[i]? = some y → ∃ g, a = some ⟨g, 0, none⟩ ∧ g < w.heap.size ∧ w.cell? ⟨g, i * 2, none⟩ = some (.int .i64 y.1) ∧ w.cell? ⟨g, i * 2 + 1, none⟩ = some (.pointer (some ⟨y.2, 0, none⟩)) := fun i y hy => by
    obtain ⟨g, cap, e, _, h1, _⟩ := row_at rcs_len hrow hy
    obtain ⟨rfl, rfl⟩ : a = some ⟨g, 0, none⟩ ∧ c = cap := by simpa using e
    have c0 := h1 0 _ rfl
    exact ⟨g, rfl, block_of_cell c0, c0, h1 1 _ rfl⟩
  have hatH := Lib.hid hat
  have hsH := Lib.hid hs
  have hnH := Lib.hid hn
  rw [hn] at hlen ⊢
  clear hat hrow hs hn
  go_enter Tryz.func165, Tryz.ntmps165
  go_wp2
  go_loopw [9, 10] (fun s9 s10 wr => ∃ lo hi : Nat, s9 = .int .i64 lo ∧ s10 = .int .i64 hi ∧ lo ≤ hi ∧ hi ≤ n ∧ Hid (Below w.heap.size w wr) ∧ Hid ((∀ t y, t < lo → l[t]? = some y → (y.1 : Int) < x) ∧ (∀ t y, hi ≤ t → l[t]? = some y → x ≤ (y.1 : Int)))) (fun s9 s10 _ => (intOf s10).toNat - (intOf s9).toNat)
  case atStart => exact ⟨0, n, rfl, rfl, Nat.zero_le _, Nat.le_refl _, Lib.hid (Below.refl _ _), Lib.hid ⟨fun t y h => absurd h (Nat.not_lt_zero _), fun t y h1 h2 => by have := (List.getElem?_eq_some_iff.1 h2).1; have := hnH.out; omega⟩⟩
  case round =>
    obtain ⟨lo, hi, rfl, rfl, hlh, hin, hb, hI⟩ := hrel
    by_cases hlt : lo < hi
    · obtain ⟨y, hy⟩ : ∃ y, l[(lo + hi) / 2]? = some y := ⟨_, List.getElem?_eq_getElem (by have := hnH.out; omega)⟩
      obtain ⟨g, rfl, hgl, c0, c1⟩ := hatH.out _ _ hy
      have d0 := (World.cell?_of_block (a := ⟨g, (lo + hi) / 2 * 2, none⟩) (hb.out.block g hgl)).trans c0
      have d1 := (World.cell?_of_block (a := ⟨g, (lo + hi) / 2 * 2 + 1, none⟩) (hb.out.block g hgl)).trans c1
      have hyH := Lib.hid hy
      obtain ⟨ya, yb⟩ := y
      dsimp only at d0 d1
      clear c0 c1 hy
      by_cases hc : (ya : Int) < x
      · have hI2 : Hid ((∀ t y, t < (lo + hi) / 2 + 1 → l[t]? = some y → (y.1 : Int) < x) ∧ (∀ t y, hi ≤ t → l[t]? = some y → x ≤ (y.1 : Int))) := Lib.hid ⟨fun t y h1 h2 => by
          by_cases e : t = (lo + hi) / 2
          · rw [e, hyH.out] at h2; cases h2; exact hc
          · have := ord_lt hsH.out h2 hyH.out (by omega); simp at this; omega, hI.out.2⟩
        have hm : cmpI ya x = -1 := by unfold cmpI; rw [if_pos hc]
        go_wp2_with (go_at_call 166; refine (cmp_any ya yb x _).mono ?_; rintro e w' ⟨rfl, hb2⟩; have hb3 := Lib.hid (hb.out.trans (hb2.mono hb.out.size)); clear hb2; rw [hm])
        go_roundw
        case rel => exact ⟨(lo + hi) / 2 + 1, hi, by go_num, rfl, by omega, hin, hb3, hI2⟩
        case measure => simp [intOf]; omega
      · have hI2 : Hid ((∀ t y, t < lo → l[t]? = some y → (y.1 : Int) < x) ∧ (∀ t y, (lo + hi) / 2 ≤ t → l[t]? = some y → x ≤ (y.1 : Int))) := Lib.hid ⟨hI.out.1, fun t y h1 h2 => by
          by_cases e : t = (lo + hi) / 2
          · rw [e, hyH.out] at h2; cases h2; exact Int.not_lt.1 hc
          · have := ord_lt hsH.out hyH.out h2 (by omega); simp at this; omega⟩
        obtain ⟨m, hm, hm2⟩ : ∃ m : Int, cmpI ya x = m ∧ decide (m < 0) = false := ⟨_, rfl, by unfold cmpI; rw [if_neg hc]; split <;> rfl⟩
        go_wp2_with (go_at_call 166; refine (cmp_any ya yb x _).mono ?_; rintro e w' ⟨rfl, hb2⟩; have hb3 := Lib.hid (hb.out.trans (hb2.mono hb.out.size)); clear hb2; rw [hm])
        go_roundw
        case rel => exact ⟨lo, (lo + hi) / 2, rfl, by go_num, by omega, by omega, hb3, hI2⟩
        case measure => simp [intOf]; omega
    · obtain rfl : hi = lo := by omega
      have hpos : Hid (posN l x = hi) := Lib.hid (posN_is (by rw [hnH.out]; exact hin) hI.out.1 (fun t y h1 h2 => Int.not_lt.2 (hI.out.2 t y h1 h2)))
      by_cases hin2 : hi < n
      · obtain ⟨y, hy⟩ : ∃ y, l[hi]? = some y := ⟨_, List.getElem?_eq_getElem (by have := hnH.out; omega)⟩
        obtain ⟨g, rfl, hgl, c0, c1⟩ := hatH.out _ _ hy
        have d0 := (World.cell?_of_block (a := ⟨g, hi * 2, none⟩) (hb.out.block g hgl)).trans c0
        have d1 := (World.cell?_of_block (a := ⟨g, hi * 2 + 1, none⟩) (hb.out.block g hgl)).trans c1
        obtain ⟨ya, yb⟩ := y
        have hge := Int.not_lt.2 (hI.out.2 hi _ (Nat.le_refl _) hy)
        have hhas : Hid (hasN l x = (cmpI ya x == 0)) := Lib.hid (by
          unfold hasN cmpI
          rw [hpos.out, hy]
          simp only [Option.map_some, Option.some.injEq]
          rw [if_neg hge]
          by_cases e : (ya : Int) = x
          · rw [e, if_neg (by omega)]; simp
          · rw [if_pos (by dsimp only at hge; omega)]; simp [e])
        obtain ⟨m, hm⟩ : ∃ m : Int, cmpI ya x = m := ⟨_, rfl⟩
        rw [hm] at hhas
        dsimp only at d0 d1
        clear c0 c1 hy hge
        go_wp2_with (go_at_call 166; refine (cmp_any ya yb x _).mono ?_; rintro e w' ⟨rfl, hb2⟩; have hb3 := Lib.hid (hb.out.trans (hb2.mono hb.out.size)); clear hb2; rw [hm])
        go_ret2
        refine ⟨?_, hb3.out⟩
        rw [hpos.out, hhas.out]
        rfl
      · have hhas : Hid (hasN l x = false) := Lib.hid (by
          unfold hasN
          rw [List.getElem?_eq_none (by rw [hpos.out, hnH.out]; omega)]
          rfl)
        go_wp2
        go_ret2
        exact ⟨by rw [hpos.out, hhas.out]; rfl, hb.out⟩
section
variable {w : World} {q o : Nat} {T : TypeId} {cs : Array Value} {v : Value} {last : Nat} {l : List Rw}
theorem find_any (h : RegAt 166 w q o T cs v last l) (hl : l.length ≤ 1000000) (x : Int) : Calls Tryz.prog 98 #[.pointer (some ⟨q, o, none⟩), .int .i64 x] w fun e w' => e = .returned (.tuple #[.int .i64 (posN l x : Nat), .bool (hasN l x)]) ∧ Below w.heap.size w w' := by
  have c0 : w.cell? ⟨q, o, none⟩ = some v := (h.blk.cell o).trans h.c0
  have hs := Lib.hid (search_any l x v w h.row hl h.ord)
  clear h
  go_enter Tryz.func98, Tryz.ntmps98
  go_wp2_with (go_at_call 165; refine hs.out.mono ?_; rintro e w' ⟨rfl, hb⟩)
  go_ret2
  exact ⟨rfl, hb⟩
set_option maxRecDepth 100000 in
theorem get_any (h : RegAt 166 w q o T cs v last l) (hl : l.length ≤ 1000000) (x : Int) : Calls Tryz.prog 84 #[.pointer (some ⟨q, o, none⟩), .int .i64 x] w fun e w' => e = .returned (ptrV (getN l x)) ∧ Below w.heap.size w w' := by
  have c0 : w.cell? ⟨q, o, none⟩ = some v := (h.blk.cell o).trans h.c0
  have hf := Lib.hid (find_any h hl x)
  have hqlt := h.blk.lt
  cases hh : hasN l x with
  | false =>
    have hg : getN l x = none := by unfold getN; rw [hh]; rfl
    rw [hg]
    have hhH := Lib.hid hh
    clear h hh hg
    go_enter Tryz.func84, Tryz.ntmps84
    go_wp2_with (go_at_call 98; refine hf.out.mono ?_; rintro e w' ⟨rfl, hb⟩; rw [hhH.out])
    go_ret
    exact ⟨rfl, hb⟩
  | true =>
    obtain ⟨r, hr, _⟩ := hasN_yes hh
    obtain ⟨g, cap, rfl, _, h1, _⟩ := row_at rcs_len h.row hr
    have d1 : w.cell? ⟨g, posN l x * 2 + 1, none⟩ = some (.pointer (some ⟨r.2, 0, none⟩)) := h1 1 _ rfl
    have hglt := block_of_cell d1
    have hg : getN l x = some r.2 := by unfold getN; rw [hh, hr]; rfl
    have hil := (List.getElem?_eq_some_iff.1 hr).1
    rw [hg]
    have hhH := Lib.hid hh
    obtain ⟨i, hi⟩ : ∃ i, posN l x = i := ⟨_, rfl⟩
    obtain ⟨n, hn⟩ : ∃ n, l.length = n := ⟨_, rfl⟩
    rw [hi] at d1 hil
    rw [hn] at c0 hil
    have hiH := Lib.hid hi
    have k0 := Lib.hid c0
    have k1 := Lib.hid d1
    clear h hh hg hr h1 hi hn c0 d1 hl
    go_enter Tryz.func84, Tryz.ntmps84
    go_wp2_with (go_at_call 98; refine hf.out.mono ?_; rintro e w' ⟨rfl, hb⟩; rw [hhH.out, hiH.out]; have e0 : w'.cell? ⟨q, o, none⟩ = some (.slice (some ⟨g, 0, none⟩) n cap) := (hb.cell hqlt).trans k0.out; have e1 : w'.cell? ⟨g, i * 2 + 1, none⟩ = some (.pointer (some ⟨r.2, 0, none⟩)) := (hb.cell hglt).trans k1.out)
    go_ret
    exact ⟨rfl, hb⟩
theorem count_any (h : RegAt 166 w q o T cs v last l) : Calls Tryz.prog 224 #[.pointer (some ⟨q, o, none⟩)] w fun e w' => e = .returned (.int .i64 (l.length : Nat)) ∧ w' = w := by
  obtain ⟨a, c, rfl⟩ := ownsRow_slice h.row
  have c0 : w.cell? ⟨q, o, none⟩ = some (.slice a l.length c) := (h.blk.cell o).trans h.c0
  clear h
  go_enter Tryz.func224, Tryz.ntmps224
  go_wp2
  go_ret
  exact ⟨rfl, rfl⟩
set_option maxRecDepth 100000 in
set_option maxHeartbeats 4000000 in
theorem put_any (h : RegAt 166 w q o T cs v last l) (hT : T ≠ 166) (hl : last < 1000000) (hlen : l.length < 1000000) (ho : o + 1 < cs.size) (b : Nat) : Calls Tryz.prog 29 #[.pointer (some ⟨q, o, none⟩), .pointer (some ⟨b, 0, none⟩)] w fun e w' =>
    e = .returned (.int .i64 ((last : Int) + 1)) ∧ ∃ v', RegAt 166 w' q o T ((cs.setIfInBounds (o + 1) (.int .i64 ((last + 1 : Nat) : Int))).setIfInBounds o v') v' (last + 1) (l ++ [(last + 1, b)]) ∧ (∀ g, v'.ownBlock = some g → v.ownBlock = some g ∨ w.heap.size ≤ g) ∧ Frm (fun g => g = q ∨ v.ownBlock = some g) w w' := by
  obtain ⟨i0, hi0, hz0, hz1, hz2⟩ := info_parts infoR
  obtain ⟨a, c, rfl⟩ := ownsRow_slice h.row
  have c0 : w.cell? ⟨q, o, none⟩ = some (.slice a l.length c) := (h.blk.cell o).trans h.c0
  have c1 : w.cell? ⟨q, o + 1, none⟩ = some (.int .i64 last) := (h.blk.cell (o + 1)).trans h.c1
  have f0 := h.blk.frozen o
  have f1 := h.blk.frozen (o + 1)
  have hoff := row_off h.blk hT h.row
  obtain ⟨W1, hW1⟩ : ∃ W, w.setCell ⟨q, o + 1, none⟩ (.int .i64 ((last : Int) + 1)) = W := ⟨_, rfl⟩
  have hB1 : Blk W1 q T (cs.setIfInBounds (o + 1) (.int .i64 ((last : Int) + 1))) := by rw [← hW1]; exact h.blk.set_ _ _
  have hrow1 : W1.ownsRow 0 166 2 (.slice a l.length c) l.length (flat rcs l) := by
    rw [← hW1]; exact row_keep h.row (fun g hg => Below.heap_setCell _ _ _ _ (fun e => hoff (by rw [hg]; exact congrArg some e.symm)))
  have hF1 : Frm (fun g => g = q ∨ (Value.slice a l.length c).ownBlock = some g) w W1 := by rw [← hW1]; exact (Frm.refl _ _).setCell (a := ⟨q, o + 1, none⟩) (.inl (.inl rfl)) _
  have d0 : W1.cell? ⟨q, o, none⟩ = some (.slice a l.length c) := by rw [hB1.cell, Array.getElem?_setIfInBounds_ne (by omega)]; exact h.c0
  have d1 : W1.cell? ⟨q, o + 1, none⟩ = some (.int .i64 ((last : Int) + 1)) := by rw [hB1.cell, Array.getElem?_setIfInBounds_self_of_lt ho]
  have g0 := hB1.frozen o
  have g1 := hB1.frozen (o + 1)
  have hsz : W1.heap.size = w.heap.size := by rw [← hW1]; simp
  have hql : q < W1.heap.size := hB1.lt
  obtain ⟨n, hn⟩ : ∃ n, l.length = n := ⟨_, rfl⟩
  rw [hn] at d0 hrow1 hlen c0 hoff hF1
  have hrow1H := Lib.hid hrow1
  have hB1H := Lib.hid hB1
  have hF1H := Lib.hid hF1
  have hoffH := Lib.hid hoff
  have hH := Lib.hid h
  have hW1H := Lib.hid hW1
  have hnH := Lib.hid hn
  have hszH := Lib.hid hsz
  clear hrow1 hB1 hF1 hoff h hW1 hn hsz
  go_enter Tryz.func29, Tryz.ntmps29
  go_upto_region 2 with fail
  rw [hW1H.out]
  go_region_law (first
    | (refine step_append_lies _ rfl (.tmp 16) (.tmp 23) 73 rfl 0 166 i0 _ 2 16 Tryz.underlying73 hi0 hz0 hz1 hz2 rfl (by decide) (.slice a n c) n (flat rcs l) (by rfl) (hrow1H.out.alloc _) ⟨W1.heap.size, 0, none⟩ 1 1 [.int .i64 ((last : Int) + 1), .pointer (some ⟨b, 0, none⟩)] (by rfl) (by rfl) (fun j u hj => by
          rw [Addr.add_lit, Nat.zero_add]
          exact ((Blk.new W1 _ #[.int .i64 ((last : Int) + 1), .pointer (some ⟨b, 0, none⟩)]).cell j).trans (by rw [← hj, ← Array.getElem?_toList])) (by intro u hu; simp at hu; rcases hu with rfl | rfl <;> rfl) (by decide) (by unfold maxLen; omega) (by omega) (Nat.zero_le _) _ rfl ?_; intro gg cc w' hown hgr hat hlt
       have hB2 : Blk w' q T (cs.setIfInBounds (o + 1) (.int .i64 ((last : Int) + 1))) := (hgr.block q (by have := hB1H.out.lt; first | (simp only [World.size_drew, World.size_alloc]; omega) | (simp; omega)) hoffH.out).trans (hB1H.out.alloc _)
       have e0 : w'.cell? ⟨q, o, none⟩ = some (.slice a n c) := by rw [hB2.cell, Array.getElem?_setIfInBounds_ne (by omega), hH.out.c0, hnH.out]
       have e1 : w'.cell? ⟨q, o + 1, none⟩ = some (.int .i64 ((last : Int) + 1)) := by rw [hB2.cell, Array.getElem?_setIfInBounds_self_of_lt ho]
       have k0 := hB2.frozen o
       have k1 := hB2.frozen (o + 1)
       have hB2H := Lib.hid hB2
       have hownH := Lib.hid hown
       have hgrH := Lib.hid hgr
       have hatH := Lib.hid hat
       clear hB2 hown hgr hat hlt)
    | fail)
  all_goals
    have hgr2 := hgrH.out
    have hgq : gg ≠ q := fun e => by
      rcases hatH.out with h1 | h1
      · exact hoffH.out (by rw [h1, e])
      · have h2 : gg = (W1.alloc (.cells #[.int .i64 ((last : Int) + 1), .pointer (some ⟨b, 0, none⟩)] 166)).heap.size := h1
        rw [World.size_alloc] at h2
        omega
    have hlast : ((last + 1 : Nat) : Int) = (last : Int) + 1 := rfl
    have hfin : RegAt 166 (w'.setCell ⟨q, o, none⟩ (.slice (some ⟨gg, 0, none⟩) (n + 1) cc)) q o T ((cs.setIfInBounds (o + 1) (.int .i64 ((last + 1 : Nat) : Int))).setIfInBounds o (.slice (some ⟨gg, 0, none⟩) (n + 1) cc)) (.slice (some ⟨gg, 0, none⟩) (n + 1) cc) (last + 1) (l ++ [(last + 1, b)]) := by
      refine ⟨hB2H.out.set_ o _, by rw [Array.getElem?_setIfInBounds_self_of_lt (by simp; omega)], by rw [Array.getElem?_setIfInBounds_ne (by omega), Array.getElem?_setIfInBounds_self_of_lt ho], ?_, ?_, ?_, by omega⟩
      · have h3 : w'.ownsRow 0 166 2 (.slice (some ⟨gg, 0, none⟩) (n + 1) cc) (l ++ [(last + 1, b)]).length (flat rcs (l ++ [(last + 1, b)])) := by
          rw [flat_append, List.length_append, hnH.out]
          exact hownH.out
        exact row_keep h3 (fun g hg => by
          obtain rfl : gg = g := by simpa [Value.ownBlock] using hg
          exact Below.heap_setCell _ _ _ _ hgq)
      · unfold Ord
        rw [List.map_append, List.pairwise_append]
        refine ⟨hH.out.ord, List.pairwise_singleton _ _, fun x hx y hy => ?_⟩
        obtain ⟨r, hr, rfl⟩ := List.mem_map.1 hx
        obtain rfl : y = last + 1 := by simpa using hy
        have := hH.out.le r hr
        omega
      · intro r hr
        rcases List.mem_append.1 hr with hr | hr
        · have := hH.out.le r hr; omega
        · obtain rfl : r = (last + 1, b) := by simpa using hr
          exact Nat.le_refl _
    have hown2 : ∀ g, (Value.slice (some ⟨gg, 0, none⟩) (n + 1) cc).ownBlock = some g → (Value.slice a n c).ownBlock = some g ∨ w.heap.size ≤ g := fun g hg => by
      obtain rfl : gg = g := by simpa [Value.ownBlock] using hg
      rcases hatH.out with h1 | h1
      · exact .inl h1
      · right
        have h2 : gg = (W1.alloc (.cells #[.int .i64 ((last : Int) + 1), .pointer (some ⟨b, 0, none⟩)] 166)).heap.size := h1
        rw [World.size_alloc, hszH.out] at h2
        omega
    have hfr : Frm (fun g => g = q ∨ (Value.slice a n c).ownBlock = some g) w (w'.setCell ⟨q, o, none⟩ (.slice (some ⟨gg, 0, none⟩) (n + 1) cc)) := by
      have h1 := (hF1H.out.alloc (.cells #[.int .i64 ((last : Int) + 1), .pointer (some ⟨b, 0, none⟩)] 166))
      have h2 : Frm (fun g => g = q ∨ (Value.slice a n c).ownBlock = some g) w w' := Frm.grown (w1 := (W1.alloc (.cells #[.int .i64 ((last : Int) + 1), .pointer (some ⟨b, 0, none⟩)] 166)).drew) ⟨h1.os, h1.tape, h1.output, h1.size, h1.block⟩ hgr2 (fun g hg => .inl (.inr hg))
      exact h2.setCell (a := ⟨q, o, none⟩) (.inl (.inl rfl)) _
    have hfinH := Lib.hid hfin
    have hown2H := Lib.hid hown2
    have hfrH := Lib.hid hfr
    clear hfin hown2 hfr hgr2
    go_wp2_with fail
    go_ret
    exact ⟨by first | rfl | (push_cast; rfl), _, hfinH.out, by rw [hnH.out]; exact hown2H.out, by rw [hnH.out]; exact hfrH.out⟩
end
end Go.Proofs.YtmilagppbepnbaaGreat.RR
