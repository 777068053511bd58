/- PatternStars' walk. Condition: none but the form's own. -/
import Derived.Test.YtlaidmjlgjpgcaaPatSA
import Derived.Deep.RegionHeld3
namespace Go.Proofs.Ytlaidmjlgjpgcaa
open Go.RowKit
attribute [local go_sem] Oper.semAt_some

def starCh : Ch := (42, false)
theorem wp_append_chs (w : World) {o : Oper} {a : Act} {K : Act → World → Prop} {Q : Exit → Act → World → Prop} (s x : Operand)
    (ho : o.op = .call { callee := .builtin .append, args := #[s, x], argTypes := #[22, 22] }) (base : Nat) (v : Value) (l0 : List Ch) (hs : a.eval s = v) (hown : w.ownsRow base 33 2 v l0.length (chv l0))
    (av : Option Addr) (n cv : Nat) (p : List Ch) (hx : a.eval x = .slice av n cv) (hn : p.length = n) (n₀ : Nat) (hP : ChsAt n₀ w av p) (hnil : av = none → cv = 0) (hle : l0.length + n ≤ 2000000) (hbase : base ≤ w.heap.size)
    (h : ∀ v' w', w'.ownsRow base 33 2 v' (l0 ++ p).length (chv (l0 ++ p)) → w.grownBy w' v.ownBlock → K (a.put o.dst v') w') : o.wp Try.prog a w K Q := by
  obtain ⟨i33, hi33, hz330, hz331, hz332⟩ := info_parts info33
  rcases av with _ | ad
  · obtain rfl : p = [] := by
      cases p with
      | nil => rfl
      | cons x p => obtain ⟨_, _, e, _⟩ := hP 0 x rfl; cases e
    obtain rfl := hnil rfl
    obtain rfl : n = 0 := hn.symm
    have hrun := run_append_owned_none (P := Try.prog) (w := w) base 22 o.type 33 i33 2 Try.underlying22 hi33 v l0.length (chv l0) hown
    have hh := h v w (by rw [List.append_nil]; exact hown) (World.grownBy.refl _ _)
    unfold Oper.wp
    simp [execOp, ho, resolve, invoke, builtin, hs, hx, hrun, Result.andThen]
    exact hh
  · refine wp_append_own _ s x 22 ho base 33 i33 _ 2 2 Try.underlying22 hi33 hz330 hz331 hz332 rfl (by decide) v l0.length (chv l0) hs hown ad n cv (chv p) hx (by rw [chv_len, hn]) ?_ (chv_one p) (by unfold maxLen; omega) (by omega) hbase ?_
    · intro j u hu
      have hj := (List.getElem?_eq_some_iff.1 hu).1
      rw [chv_len] at hj
      obtain ⟨x0, hx0⟩ : ∃ x, p[0]? = some x := ⟨_, List.getElem?_eq_getElem (by omega)⟩
      obtain ⟨b, off, e, _⟩ := hP 0 x0 hx0
      obtain rfl := Option.some.inj e
      exact chv_cells hP j u hu
    · intro v' w' hown' hg _
      exact h v' w' (by rw [List.length_append, chv_app, hn]; exact hown') hg
theorem step_append_chs (w : World) {ops : Array Oper} {o : Oper} {a : Act} {K : Act → World → Prop} {Q : Exit → Act → World → Prop} {E : Prop} (hgd : o.guard = none) (s x : Operand)
    (ho : o.op = .call { callee := .builtin .append, args := #[s, x], argTypes := #[22, 22] }) (base : Nat) (v : Value) (l0 : List Ch) (hs : a.eval s = v) (hown : w.ownsRow base 33 2 v l0.length (chv l0))
    (av : Option Addr) (n cv : Nat) (p : List Ch) (hx : a.eval x = .slice av n cv) (hn : p.length = n) (n₀ : Nat) (hP : ChsAt n₀ w av p) (hnil : av = none → cv = 0) (hle : l0.length + n ≤ 2000000) (hbase : base ≤ w.heap.size)
    (h : ∀ v' w', w'.ownsRow base 33 2 v' (l0 ++ p).length (chv (l0 ++ p)) → w.grownBy w' v.ownBlock → K (a.put o.dst v') w') :
    if Region.wanted o (yielded ops a.tmps) = true then Oper.wp Try.prog o a w K Q else E := by
  have hw : Region.wanted o (yielded ops a.tmps) = true := by simp [Region.wanted, hgd]
  rw [if_pos hw]
  exact wp_append_chs w s x ho base v l0 hs hown av n cv p hx hn n₀ hP hnil hle hbase h

/-- A literal of one star, laid. -/
theorem star_row (n1 : Nat) (W : World) (h : n1 ≤ W.heap.size) : (W.alloc (.cells #[.int .u8 42, .bool false] 33)).ownsRow n1 33 2 (.slice (some ⟨W.heap.size, 0, none⟩) 1 1) ([starCh] : List Ch).length (chv [starCh]) :=
  World.ownsRow_lit W #[.int .u8 42, .bool false] 1 h (by unfold maxLen; omega) rfl
theorem star_chs {W : World} {b : Nat} (h0 : W.cell? ⟨b, 0, none⟩ = some (.int .u8 42)) (h1 : W.cell? ⟨b, 1, none⟩ = some (.bool false)) : ChsAt (b + 1) W (some ⟨b, 0, none⟩) [starCh] := by
  intro i x hx
  have hi := (List.getElem?_eq_some_iff.1 hx).1
  obtain rfl : i = 0 := by simpa using hi
  obtain rfl : starCh = x := by simpa using hx
  exact ⟨b, 0, rfl, by omega, h0, h1⟩


theorem lit_new (W : World) : (W.alloc (.cells #[.int .u8 42, .bool false] 33)).cell? ⟨W.heap.size, 0, none⟩ = some (.int .u8 42) ∧ (W.alloc (.cells #[.int .u8 42, .bool false] 33)).cell? ⟨W.heap.size, 1, none⟩ = some (.bool false) := by
  have h : Blk (W.alloc (.cells #[.int .u8 42, .bool false] 33)) W.heap.size 33 #[.int .u8 42, .bool false] := Blk.new _ _ _
  exact ⟨h.cell 0, h.cell 1⟩
theorem lit_kept {W w2 : World} {row : Option Nat} (hg : W.grownBy w2 row) {b : Nat} (hb : Blk W b 33 #[.int .u8 42, .bool false]) (hne : some b ≠ row) : w2.cell? ⟨b, 0, none⟩ = some (.int .u8 42) ∧ w2.cell? ⟨b, 1, none⟩ = some (.bool false) := by
  have h : Blk w2 b 33 #[.int .u8 42, .bool false] := (hg.block b hb.lt hne).trans hb
  exact ⟨h.cell 0, h.cell 1⟩
/-- What a pattern between two stars matches. -/
theorem stars_mat {p : List Ch} (hp : ∀ x ∈ p, bareB x 91 = false) (s : List UInt8) : Mat (els ([starCh] ++ p ++ [starCh]) 0) s ↔ ∃ i j, i ≤ j ∧ j ≤ s.length ∧ Mat (els p 0) ((s.drop i).take (j - i)) := by
  have h : ∀ x ∈ [starCh] ++ p ++ [starCh], bareB x 91 = false := by
    intro x hx
    rcases List.mem_append.1 hx with g | g
    · rcases List.mem_append.1 g with g | g
      · rw [List.mem_singleton.1 g]; rfl
      · exact hp x g
    · rw [List.mem_singleton.1 g]; rfl
  have e : el1 starCh = ⟨true, fun _ => false⟩ := rfl
  rw [els_map _ h, els_map _ hp, List.map_append, List.map_append, List.map_cons, List.map_nil, e, List.append_assoc, List.singleton_append, mat_star rfl]
  constructor
  · rintro ⟨i, hi, hm⟩
    obtain ⟨k, hk, h1, _⟩ := (mat_append _ _ _).1 hm
    rw [List.length_drop] at hk
    exact ⟨i, i + k, by omega, by omega, by rw [Nat.add_sub_cancel_left]; exact h1⟩
  · rintro ⟨i, j, h1, h2, h3⟩
    refine ⟨i, by omega, (mat_append _ _ _).2 ⟨j - i, by rw [List.length_drop]; omega, h3, (mat_star rfl).2 ⟨((s.drop i).drop (j - i)).length, Nat.le_refl _, ?_⟩⟩⟩
    rw [List.drop_length]; rfl
def StarSlot (n1 : Nat) (p : List Ch) (W : World) (v : Value) (wx : World) : Prop := Below n1 W wx ∧ ∃ av cv, v = .slice av (p.length + 2) cv ∧ ChsAt wx.heap.size wx av ([starCh] ++ p ++ [starCh])
set_option maxHeartbeats 4000000 in
set_option maxRecDepth 100000 in
theorem patternStars_walk (ap : Option Addr) (np cp : Nat) (p : List Ch) (s : ByteArray) (w : World) (hnp : p.length = np) (hPp : ChsAt w.heap.size w ap p) (hnilp : ap = none → cp = 0) (hn63 : np ≤ maxLen) (hs : s.size ≤ maxLen) : Calls Try.prog 6 #[.slice ap np cp, .string s] w (TrueR w) := by
  unfold maxLen at hs hn63
  have hwr := Nat.le_refl w.heap.size
  have hnpH := Lib.hid hnp
  have hPpH : Hid (∀ W, Below w.heap.size w W → ChsAt w.heap.size W ap p) := Lib.hid (fun W hW => hPp.below hW)
  have hnilpH := Lib.hid hnilp
  clear hnp hPp hnilp
  go_enter Try.func6, Try.ntmps6
  go_wp2_with fail
  refine (awake2_any w).mono ?_
  rintro e w1 ⟨rfl, hb1⟩
  have B1 := Lib.hid hb1
  clear hb1
  by_cases h1 : (20 : Int) < (np : Int)
  · go_wp2_with fail
    go_ret
    exact ⟨rfl, B1.out⟩
  · by_cases h2 : (20 : Int) < s.size
    · go_wp2_with fail
      go_ret
      exact ⟨rfl, B1.out⟩
    · have hs4 : s.size ≤ 1000000 := by omega
      have hnp4 : np ≤ 20 := by omega
      have hB1s := B1.out.size
      go_upto_region 6 with fail
      obtain ⟨bs, hbs⟩ : ∃ bs, w1.heap.size = bs := ⟨_, rfl⟩
      obtain ⟨W, hW⟩ : ∃ W, w1.alloc (.cells #[.int .u8 42, .bool false] 33) = W := ⟨_, rfl⟩
      rw [hW, hbs]
      have hWs : W.heap.size = bs + 1 := by rw [← hW, World.size_alloc, hbs]
      have hbk : Blk W bs 33 #[.int .u8 42, .bool false] := by rw [← hW, ← hbs]; exact Blk.new _ _ _
      have BW : Hid (Below w.heap.size w W) := Lib.hid (by rw [← hW]; exact B1.out.alloc hB1s _)
      have hS : Hid (∀ W', Below W.heap.size W W' → W'.cell? ⟨bs, 0, none⟩ = some (.int .u8 42) ∧ W'.cell? ⟨bs, 1, none⟩ = some (.bool false)) := Lib.hid (fun W' hW' => by
        have h : Blk W' bs 33 #[.int .u8 42, .bool false] := (hW'.block bs hbk.lt).trans hbk
        exact ⟨h.cell 0, h.cell 1⟩)
      have hPW : Hid (∀ W', Below W.heap.size W W' → ChsAt w.heap.size W' ap p) := Lib.hid (fun W' hW' => hPpH.out W' (below_on BW.out hwr hW'))
      have hw0 := Nat.le_refl W.heap.size
      have hWsH := Lib.hid hWs
      clear hW hbs hWs hbk
      go_cut [6] (fun s6 wx => StarSlot W.heap.size p W s6 wx)
      case first =>
        obtain ⟨d0, d1⟩ := hS.out W (Below.refl _ _)
        have bd : Below W.heap.size W W.drew := (Below.refl _ _).drew
        have bA : Below W.heap.size W (W.drew.alloc (.cells #[.int .u8 42, .bool false] 33)) := bd.alloc (by simp) _
        have bB : Below W.heap.size W ((W.drew.alloc (.cells #[.int .u8 42, .bool false] 33)).alloc (.cells #[.int .u8 42, .bool false] 33)) := bA.alloc (by simp) _
        have rA := Lib.hid (star_row W.heap.size W.drew (by simp))
        have rB := Lib.hid (rA.out.alloc (.cells #[.int .u8 42, .bool false] 33))
        have rC := Lib.hid (star_row W.heap.size (W.drew.alloc (.cells #[.int .u8 42, .bool false] 33)) (by simp))
        have lB : Hid (Blk ((W.drew.alloc (.cells #[.int .u8 42, .bool false] 33)).alloc (.cells #[.int .u8 42, .bool false] 33)) (W.heap.size + 1) 33 #[.int .u8 42, .bool false]) := Lib.hid (by
          have h := Blk.new (W.drew.alloc (.cells #[.int .u8 42, .bool false] 33)) 33 #[.int .u8 42, .bool false]
          rwa [World.size_alloc] at h)
        have lC : Hid (Blk ((W.drew.alloc (.cells #[.int .u8 42, .bool false] 33)).alloc (.cells #[.int .u8 42, .bool false] 33)) W.heap.size 33 #[.int .u8 42, .bool false]) := Lib.hid ((Below.heap_alloc _ _ _ (by simp)).trans (Blk.new W.drew 33 #[.int .u8 42, .bool false]))
        go_region_held3 (fun W' => W'.cell? ⟨bs, 0, none⟩ = some (.int .u8 42) ∧ W'.cell? ⟨bs, 1, none⟩ = some (.bool false)) (first | go_keep | exact hS.out _ b3 | exact hS.out _ b2) (first
          | (refine step_append_chs _ (by rfl) (.tmp 25) (.tmp 27) (by rfl) W.heap.size v2 ([starCh] ++ p) (by rfl) (own2.alloc _) (some ⟨w2.heap.size, 0, none⟩) 1 1 [starCh] (by rfl) rfl (w2.heap.size + 1) (star_chs (lit_new w2).1 (lit_new w2).2) (by simp) (by simp; have := hnpH.out; omega) (by simp; omega) ?_; intro v3 w3 own3 hgrow3; have b3 : Below W.heap.size W w3 := (b2.alloc hz2 _).grown hgrow3 (by simp; omega) (fun q e => (own2.lt q e).1))
          | (refine step_append_chs _ (by rfl) (.tmp 25) (.tmp 27) (by rfl) W.heap.size v2 ([starCh] ++ p) (by rfl) own2 (some ⟨W.heap.size + 1, 0, none⟩) 1 1 [starCh] (by rfl) rfl (W.heap.size + 2) (star_chs l2.1 l2.2) (by simp) (by simp; have := hnpH.out; omega) hz2 ?_; intro v3 w3 own3 hgrow3; have b3 : Below W.heap.size W w3 := b2.grown hgrow3 hz2 (fun q e => (own2.lt q e).1))
          | (refine step_append_chs _ (by rfl) (.tmp 25) (.tmp 27) (by rfl) W.heap.size v2 ([starCh] ++ p) (by rfl) own2 (some ⟨W.heap.size, 0, none⟩) 1 1 [starCh] (by rfl) rfl (W.heap.size + 1) (star_chs l2.1 l2.2) (by simp) (by simp; have := hnpH.out; omega) hz2 ?_; intro v3 w3 own3 hgrow3; have b3 : Below W.heap.size W w3 := b2.grown hgrow3 hz2 (fun q e => (own2.lt q e).1))
          | (refine step_append_chs _ (by rfl) (.tmp 23) (.tmp 24) (by rfl) W.heap.size (.slice (some ⟨W.heap.size, 0, none⟩) 1 1) [starCh] (by rfl) rA.out ap np cp p (by rfl) hnpH.out w.heap.size (hPW.out _ bA) hnilpH.out (by simp; omega) (by simp) ?_; intro v2 w2 own2 hgrow2; have b2 : Below W.heap.size W w2 := (bA.grown hgrow2 (by simp) (fun q e => (rA.out.lt q e).1)); have hz2 := b2.size)
          | (refine step_append_chs _ (by rfl) (.tmp 23) (.tmp 24) (by rfl) W.heap.size (.slice (some ⟨W.heap.size, 0, none⟩) 1 1) [starCh] (by rfl) rB.out ap np cp p (by rfl) hnpH.out w.heap.size (hPW.out _ bB) hnilpH.out (by simp; omega) (by simp; omega) ?_; intro v2 w2 own2 hgrow2; have b2 : Below W.heap.size W w2 := (bB.grown hgrow2 (by simp; omega) (fun q e => (rB.out.lt q e).1)); have hz2 := b2.size; have l2 := lit_kept hgrow2 lB.out (by simp [Value.ownBlock]))
          | (refine step_append_chs _ (by rfl) (.tmp 23) (.tmp 24) (by rfl) W.heap.size (.slice (some ⟨W.heap.size + 1, 0, none⟩) 1 1) [starCh] (by rfl) (by have h := rC.out; rwa [World.size_alloc] at h) ap np cp p (by rfl) hnpH.out w.heap.size (hPW.out _ bB) hnilpH.out (by simp; omega) (by simp; omega) ?_; intro v2 w2 own2 hgrow2; have b2 : Below W.heap.size W w2 := (bB.grown hgrow2 (by simp; omega) (fun q e => (rC.out.lt q (by rw [World.size_alloc]; exact e)).1)); have hz2 := b2.size; have l2 := lit_kept hgrow2 lC.out (by simp [Value.ownBlock])))
        all_goals
          have hf : Hid (StarSlot W.heap.size p W v3 w3) := Lib.hid (by
            obtain ⟨a3, c3, e3, h3⟩ := own_chs own3
            refine ⟨b3, a3, c3, ?_, h3⟩
            rw [e3]; congr 1; simp)
          clear b3 b2 own3 own2 hgrow3 hgrow2 hz2 bA bB bd d0 d1
          go_wp2_with fail
          go_meet
          exact hf.out
      case rest =>
        obtain ⟨hBc, av, cv, rfl, hA⟩ := hcut
        have hwc := Nat.le_refl wc.heap.size
        have BC : Hid (Below w.heap.size w wc) := Lib.hid (below_on BW.out hwr hBc)
        have PA : Hid (∀ W', Below wc.heap.size wc W' → ChsAt W'.heap.size W' av ([starCh] ++ p ++ [starCh])) := Lib.hid (fun W' hW' => (hA.below hW').mono hW'.size)
        have Pp : Hid (∀ W', Below wc.heap.size wc W' → ChsAt W'.heap.size W' ap p) := Lib.hid (fun W' hW' => by
          have h := below_on BC.out hwr hW'
          exact (hPpH.out W' h).mono h.size)
        have hal : Hid (([starCh] ++ p ++ [starCh]).length = np + 2) := Lib.hid (by rw [List.length_append, List.length_append, hnpH.out]; simp; omega)
        rw [hnpH.out]
        clear hBc hA
        go_wp2_with fail
        go_loopw [7, 8] (fun s7 s8 wr => ∃ (i : Nat) (fd : Bool), i ≤ s.size + 1 ∧ s8 = .int .i64 i ∧ s7 = .bool fd ∧ Hid (fd = true ↔ ∃ a b, a < i ∧ a ≤ b ∧ b ≤ s.size ∧ Mat (els p 0) ((s.data.toList.drop a).take (b - a))) ∧ Hid (Below wc.heap.size wc wr)) (fun _ s8 _ => s.size + 1 - (intOf s8).toNat)
        case atStart => exact ⟨0, false, Nat.zero_le _, rfl, rfl, Lib.hid ⟨(fun h => by cases h), fun ⟨a, b, h, _⟩ => by omega⟩, Lib.hid (Below.refl _ _)⟩
        case round =>
          obtain ⟨i, fd, hi, rfl, rfl, hfd, hBr⟩ := hrel
          by_cases hil : i ≤ s.size
          · have hil' : (i : Int) ≤ (s.size : Int) := by omega
            have hi0 : (0 : Int) ≤ (i : Int) := by omega
            obtain ⟨wo, hwo⟩ : ∃ wo, wr = wo := ⟨_, rfl⟩
            have hBo : Hid (Below wc.heap.size wc wo) := Lib.hid (by rw [← hwo]; exact hBr.out)
            rw [hwo]
            clear hBr hwo
            go_wp2_with fail
            go_loopw [7, 9] (fun s7 s9 wr => ∃ (j : Nat) (fe : Bool), i ≤ j ∧ j ≤ s.size + 1 ∧ s9 = .int .i64 j ∧ s7 = .bool fe ∧ Hid (fe = true ↔ (∃ a b, a < i ∧ a ≤ b ∧ b ≤ s.size ∧ Mat (els p 0) ((s.data.toList.drop a).take (b - a))) ∨ ∃ b, i ≤ b ∧ b < j ∧ Mat (els p 0) ((s.data.toList.drop i).take (b - i))) ∧ Hid (Below wc.heap.size wc wr)) (fun _ s9 _ => s.size + 1 - (intOf s9).toNat)
            case atStart => exact ⟨i, fd, Nat.le_refl _, by omega, rfl, rfl, Lib.hid (hfd.out.trans ⟨.inl, fun h => h.elim id (fun ⟨b, h1, h2, _⟩ => by omega)⟩), hBo⟩
            case round =>
              obtain ⟨j, fe, hij, hj, rfl, rfl, hfe, hBr⟩ := hrel
              by_cases hjl : j ≤ s.size
              · have hjl' : (j : Int) ≤ (s.size : Int) := by omega
                have hij' : (i : Int) ≤ (j : Int) := by omega
                cases fe
                · have m1 := Lib.hid (match_any ap np cp p (s.extract i j) wr hnpH.out (Pp.out wr hBr.out) (by omega) (Nat.le_trans (by rw [ByteArray.size_extract]; omega) hs4))
                  have hfn : Hid (¬ ((∃ a b, a < i ∧ a ≤ b ∧ b ≤ s.size ∧ Mat (els p 0) ((s.data.toList.drop a).take (b - a))) ∨ ∃ b, i ≤ b ∧ b < j ∧ Mat (els p 0) ((s.data.toList.drop i).take (b - i)))) := Lib.hid (fun h => by have := hfe.out.2 h; cases this)
                  go_wp2_with fail
                  refine m1.out.mono ?_
                  rintro e w4 ⟨hb4, b4, rfl, h4⟩
                  rw [Lib.extract_data] at h4
                  have B4 := Lib.hid (below_on hBr.out hwc hb4)
                  have h4H := Lib.hid h4
                  clear hb4 h4 m1
                  go_wp2_with fail
                  go_roundw
                  case rel => exact ⟨j + 1, b4, by omega, by omega, by go_num, rfl, Lib.hid ⟨fun h => .inr ⟨j, hij, by omega, h4H.out.1 h⟩, fun h => by
                    rcases h with h | ⟨b, g1, g2, g3⟩
                    · exact absurd (.inl h) hfn.out
                    · by_cases hbj : b = j
                      · subst hbj; exact h4H.out.2 g3
                      · exact absurd (.inr ⟨b, g1, by omega, g3⟩) hfn.out⟩, B4⟩
                  case measure => simp [intOf]; omega
                · have hfy : Hid ((∃ a b, a < i ∧ a ≤ b ∧ b ≤ s.size ∧ Mat (els p 0) ((s.data.toList.drop a).take (b - a))) ∨ ∃ b, i ≤ b ∧ b < j ∧ Mat (els p 0) ((s.data.toList.drop i).take (b - i))) := Lib.hid (hfe.out.1 rfl)
                  go_wp2_with fail
                  go_roundw
                  case rel => exact ⟨j + 1, true, by omega, by omega, by go_num, rfl, Lib.hid ⟨fun _ => hfy.out.imp id (fun ⟨b, g1, g2, g3⟩ => ⟨b, g1, by omega, g3⟩), fun _ => rfl⟩, hBr⟩
                  case measure => simp [intOf]; omega
              · have hjl' : ¬ (j : Int) ≤ (s.size : Int) := by omega
                go_wp2_with fail
                go_roundw
                case rel => exact ⟨i + 1, fe, by omega, by go_num, rfl, Lib.hid (hfe.out.trans ⟨fun h => by
                  rcases h with ⟨a, b, g1, g2, g3, g4⟩ | ⟨b, g1, g2, g3⟩
                  · exact ⟨a, b, by omega, g2, g3, g4⟩
                  · exact ⟨i, b, by omega, g1, by omega, g3⟩, fun ⟨a, b, g1, g2, g3, g4⟩ => by
                  by_cases hai : a = i
                  · subst hai; exact .inr ⟨b, g2, by omega, g4⟩
                  · exact .inl ⟨a, b, by omega, g2, g3, g4⟩⟩), hBr⟩
                case measure => simp [intOf]; omega
          · have hil' : ¬ (i : Int) ≤ (s.size : Int) := by omega
            obtain ⟨wo, hwo⟩ : ∃ wo, wr = wo := ⟨_, rfl⟩
            have hBo : Hid (Below wc.heap.size wc wo) := Lib.hid (by rw [← hwo]; exact hBr.out)
            rw [hwo]
            clear hBr hwo
            go_wp2_with fail
            go_loop [53] (fun s53 => ∃ k : Nat, k ≤ np ∧ s53 = .int .i64 k ∧ Hid (∀ x ∈ p.take k, bareB x 91 = false)) (fun s53 => np - (intOf s53).toNat)
            case atStart => exact ⟨0, Nat.zero_le _, rfl, Lib.hid (fun x hx => by simp at hx)⟩
            case round =>
              obtain ⟨k, hk, rfl, hno⟩ := hrel
              by_cases hlt : k < np
              · have hlt' : (k : Int) < (np : Int) := by omega
                obtain ⟨x, hx⟩ : ∃ x, p[k]? = some x := ⟨_, List.getElem?_eq_getElem (by rw [hnpH.out]; exact hlt)⟩
                obtain ⟨g, off, rfl, hg, c0, c1⟩ := Pp.out wo hBo.out k x hx
                have htk : Hid (p.take (k + 1) = p.take k ++ [x]) := Lib.hid (by rw [List.take_add_one, hx]; rfl)
                obtain ⟨c, qq⟩ := x
                clear hx
                by_cases h91 : c = 91
                · have e91 : ((c.toNat : Int) == 91) = true := by rw [h91]; rfl
                  have hcn : (c.toNat : Int) = 91 := by rw [h91]; rfl
                  cases qq
                  · go_wp2_with fail
                    go_ret
                    exact ⟨rfl, below_on BC.out hwr hBo.out⟩
                  · have hnb91 : Hid (bareB (c, true) 91 = false) := Lib.hid (by rw [open_bracket]; simp)
                    go_wp2_with fail
                    go_round
                    case rel => exact ⟨k + 1, by omega, by go_num, Lib.hid (fun x hx => by
                      rw [htk.out] at hx
                      rcases List.mem_append.1 hx with g | g
                      · exact hno.out x g
                      · rw [List.mem_singleton.1 g]; exact hnb91.out)⟩
                    case measure => simp [intOf]; omega
                · have e91 : ((c.toNat : Int) == 91) = false := beq_eq_false_iff_ne.2 (fun e => h91 (UInt8.toNat_inj.1 (by show c.toNat = 91; omega)))
                  have hnb91 : Hid (bareB (c, qq) 91 = false) := Lib.hid (by rw [open_bracket, beq_eq_false_iff_ne.2 h91]; rfl)
                  clear h91
                  go_wp2_with fail
                  go_round
                  case rel => exact ⟨k + 1, by omega, by go_num, Lib.hid (fun x hx => by
                    rw [htk.out] at hx
                    rcases List.mem_append.1 hx with g | g
                    · exact hno.out x g
                    · rw [List.mem_singleton.1 g]; exact hnb91.out)⟩
                  case measure => simp [intOf]; omega
              · have hlt' : ¬ (k : Int) < (np : Int) := by omega
                have hall : Hid (∀ x ∈ p, bareB x 91 = false) := Lib.hid (fun x hx => hno.out x (by rwa [List.take_of_length_le (by rw [hnpH.out]; omega)]))
                have m3 := Lib.hid (match_any av (np + 2) cv ([starCh] ++ p ++ [starCh]) s wo hal.out (PA.out wo hBo.out) (by omega) hs4)
                go_wp2_with fail
                refine m3.out.mono ?_
                rintro e w6 ⟨hb6, b6, rfl, h6⟩
                rw [stars_mat hall.out] at h6
                obtain rfl : b6 = fd := by
                  rw [Bool.eq_iff_iff]
                  have e : s.data.toList.length = s.size := rfl
                  refine h6.trans (Iff.trans ⟨?_, ?_⟩ hfd.out.symm)
                  · rintro ⟨a, b, g1, g2, g3⟩
                    exact ⟨a, b, by omega, g1, by omega, g3⟩
                  · rintro ⟨a, b, g1, g2, g3, g4⟩
                    exact ⟨a, b, g2, by omega, g4⟩
                have B6 := Lib.hid (below_on BC.out hwr (below_on hBo.out hwc hb6))
                clear hb6 h6 m3
                go_wp2_with fail
                go_ret
                exact ⟨rfl, B6.out⟩
end Go.Proofs.Ytlaidmjlgjpgcaa
