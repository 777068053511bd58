/- A pattern appended to one of the law's own; PatternMatches' walk. Condition: none but the form's own. -/
import Derived.Test.YtlaidmjlgjpgcaaPatY
import Derived.Laws.AppendOwnNone
namespace Go.Proofs.Ytlaidmjlgjpgcaa
open Go.RowKit
attribute [local go_sem] Oper.semAt_some

theorem chv_cells {n₀ : Nat} {w : World} {b off : Nat} {p : List Ch} (hP : ChsAt n₀ w (some ⟨b, off, none⟩) p) : ∀ j u, (chv p)[j]? = some u → w.cell? ((⟨b, off, none⟩ : Addr).add j) = some u := by
  intro j u hu
  have hj := (List.getElem?_eq_some_iff.1 hu).1
  rw [chv_len] at hj
  obtain ⟨x, hx⟩ : ∃ x, p[j / 2]? = some x := ⟨_, List.getElem?_eq_getElem (by omega)⟩
  obtain ⟨b', off', e, _, c0, c1⟩ := hP (j / 2) x hx
  obtain ⟨rfl, rfl, -⟩ := Addr.mk.inj (Option.some.inj e)
  rw [Lib.add_plain]
  obtain ⟨g0, g1⟩ := chv_get hx
  rcases Nat.mod_two_eq_zero_or_one j with h | h
  · rw [show j = j / 2 * 2 by omega] at hu ⊢
    rw [g0] at hu
    rw [← hu]; exact c0
  · rw [show j = j / 2 * 2 + 1 by omega] at hu ⊢
    rw [g1] at hu
    rw [← hu]; exact c1
theorem chv_app (a b : List Ch) : chv (a ++ b) = chv a ++ chv b := by unfold chv; rw [List.flatMap_append]
theorem chv_one (p : List Ch) : ∀ u ∈ chv p, u.oneCell' = true := by
  unfold chv
  intro u hu
  obtain ⟨c, _, h⟩ := List.mem_flatMap.1 hu
  simp at h
  rcases h with rfl | rfl <;> rfl
theorem wpList_append_chs {w : World} {ops : Array Oper} {rest : List Oper} {o : Oper} {a : Act} {Q : Exit → Act → World → Prop} (hgd : o.guard = none) (s x : Operand)
    (ho : o.op = .call { callee := .builtin .append, args := #[s, x], argTypes := #[22, 22] }) (base : Nat) (v : Value) (l0 : List Ch) (hs : a.eval s = v) (hown : w.ownsRow base 33 2 v l0.length (chv l0))
    (av : Option Addr) (n cv : Nat) (p : List Ch) (hx : a.eval x = .slice av n cv) (hn : p.length = n) {n₀ : Nat} (hP : ChsAt n₀ w av p) (hnil : av = none → cv = 0) (hle : l0.length + n ≤ 2000000) (hbase : base ≤ w.heap.size)
    (h : ∀ v' w', w'.ownsRow base 33 2 v' (l0 ++ p).length (chv (l0 ++ p)) → w.grownBy w' v.ownBlock → wpList Try.prog ops Q rest (a.put o.dst v') w') : wpList Try.prog ops Q (o :: rest) a w := by
  obtain ⟨i33, hi33, hz330, hz331, hz332⟩ := info_parts info33
  rcases av with _ | ad
  · obtain rfl : p = [] := by
      cases p with
      | nil => rfl
      | cons x p => obtain ⟨_, _, e, _⟩ := hP 0 x rfl; cases e
    obtain rfl := hnil rfl
    obtain rfl : n = 0 := hn.symm
    refine wpList_append_own_none hgd s x 22 ho base 33 i33 2 Try.underlying22 hi33 v l0.length (chv l0) hs hown hx ?_
    refine h v w (by rw [List.append_nil]; exact hown) (World.grownBy.refl _ _)
  · refine wpList_append_own _ hgd s x 22 ho base 33 i33 _ 2 2 Try.underlying22 hi33 hz330 hz331 hz332 rfl (by decide) v l0.length (chv l0) hs hown ad n cv (chv p) hx (by rw [chv_len, hn]) ?_ (chv_one p) (by unfold maxLen; omega) (by omega) hbase ?_
    · intro j u hu
      have hj := (List.getElem?_eq_some_iff.1 hu).1
      rw [chv_len] at hj
      obtain ⟨x0, hx0⟩ : ∃ x, p[0]? = some x := ⟨_, List.getElem?_eq_getElem (by omega)⟩
      obtain ⟨b, off, e, _⟩ := hP 0 x0 hx0
      obtain rfl := Option.some.inj e
      exact chv_cells hP j u hu
    · intro v' w' hown' hg _
      exact h v' w' (by rw [List.length_append, chv_app, hn]; exact hown') hg

set_option maxHeartbeats 2000000 in
set_option maxRecDepth 100000 in
theorem patternMatches_walk (av : Option Addr) (n cv : Nat) (p : List Ch) (s : ByteArray) (w : World) (hn : p.length = n) (hP : ChsAt w.heap.size w av p) (hnil : av = none → cv = 0) (hn63 : n ≤ maxLen) (hs : s.size ≤ maxLen) : Calls Try.prog 3 #[.slice av n cv, .string s] w (TrueR w) := by
  unfold maxLen at hs hn63
  have hwr := Nat.le_refl w.heap.size
  have hnH := Lib.hid hn
  have hPH : Hid (∀ W, Below w.heap.size w W → ChsAt w.heap.size W av p) := Lib.hid (fun W hW => hP.below hW)
  have hnilH := Lib.hid hnil
  clear hn hP hnil
  go_enter Try.func3, Try.ntmps3
  go_wp2_with fail
  refine (awake2_any w).mono ?_
  rintro e w1 ⟨rfl, hb1⟩
  have B1 := Lib.hid hb1
  clear hb1
  by_cases h1 : (400 : Int) < n
  · go_wp2_with fail
    go_ret
    exact ⟨rfl, B1.out⟩
  · by_cases h2 : (400 : Int) < s.size
    · go_wp2_with fail
      go_ret
      exact ⟨rfl, B1.out⟩
    · have hs4 : s.size ≤ 1000000 := by omega
      have hn4 : n ≤ 1000000 := by omega
      have hw1 := Nat.le_refl w1.heap.size
      have hB1s := B1.out.size
      have hown0 : Hid ((w1.alloc (.cells #[] 33)).ownsRow w1.heap.size 33 2 (.slice (some ⟨w1.heap.size, 0, none⟩) 0 0) ([] : List Ch).length (chv [])) := Lib.hid (World.ownsRow_lit w1 #[] 0 (Nat.le_refl _) (by unfold maxLen; omega) rfl)
      have hP0 : Hid (ChsAt w.heap.size (w1.alloc (.cells #[] 33)) av p) := Lib.hid (hPH.out _ (B1.out.alloc hB1s _))
      go_wp2_with (at_builtin; refine wpList_append_chs rfl (.tmp 16) (.tmp 17) rfl w1.heap.size _ [] rfl hown0.out av n cv p rfl hnH.out hP0.out hnilH.out (by simp; omega) (by simp) ?_; intro v' w2 own2 hgrow; rw [List.nil_append] at own2; obtain ⟨av2, cv2, rfl, hP2⟩ := own_chs own2)
      rw [hnH.out]
      have B2 : Hid (Below w.heap.size w w2) := Lib.hid ((B1.out.alloc hB1s _).grown hgrow (by simp; omega) (fun q e => by have := (hown0.out.lt q e).1; omega))
      have P2 : Hid (∀ W, Below w2.heap.size w2 W → ChsAt W.heap.size W av2 p) := Lib.hid (fun W hW => (hP2.below hW).mono hW.size)
      have hw2 := Nat.le_refl w2.heap.size
      have Pw : Hid (∀ W, Below w2.heap.size w2 W → ChsAt W.heap.size W av p) := Lib.hid (fun W hW => by
        have h := below_on B2.out hwr hW
        exact (hPH.out W h).mono h.size)
      have c15 := Lib.hid (match_any av2 n cv2 p s w2 hnH.out hP2 hn4 hs4)
      clear own2 hgrow hP2 hown0 hP0
      go_wp2_with fail
      refine c15.out.mono ?_
      rintro e w3 ⟨hb3, b3, rfl, h3⟩
      have h3H := Lib.hid h3
      have E3 := Lib.hid hb3
      have c16 := Lib.hid (refMatch_any av n cv p s w3 hnH.out (Pw.out w3 hb3) hn4 hs4)
      clear hb3 h3 c15
      go_wp2_with fail
      refine c16.out.mono ?_
      rintro e w4 ⟨hb4, b4, rfl, h4⟩
      obtain rfl : b3 = b4 := by rw [Bool.eq_iff_iff]; exact h3H.out.trans h4.symm
      have E4 := Lib.hid (below_on E3.out hw2 hb4)
      have c17 := Lib.hid (wild_any av2 n cv2 p w4 hnH.out (P2.out w4 E4.out) hn4)
      clear hb4 h4 c16 h3H
      go_wp2_with fail
      refine c17.out.mono ?_
      rintro e w5 ⟨hb5, rfl⟩
      have E5 := Lib.hid (below_on E4.out hw2 hb5)
      have c18 := Lib.hid (refWild_any av n cv p w5 ⟨hnH.out, ⟨_, Pw.out w5 E5.out⟩, hn4⟩)
      obtain ⟨bw, hbw⟩ : ∃ bw, wildB p = bw := ⟨_, rfl⟩
      rw [hbw] at c18 ⊢
      clear hb5 c17 hbw
      go_wp2_with fail
      refine c18.out.mono ?_
      rintro e w6 ⟨rfl, rfl⟩
      have c19 := Lib.hid (samePat_yes av2 av cv2 cv n p w5 ⟨hnH.out, ⟨_, P2.out w5 E5.out⟩, hn4⟩ ⟨hnH.out, ⟨_, Pw.out w5 E5.out⟩, hn4⟩)
      clear c18
      go_wp2_with fail
      refine c19.out.mono ?_
      rintro e w7 ⟨rfl, m7, rfl⟩
      have E7 := Lib.hid (below_on B2.out hwr (below_drewN E5.out m7))
      clear c19
      go_wp2_with fail
      go_ret
      exact ⟨rfl, E7.out⟩
end Go.Proofs.Ytlaidmjlgjpgcaa
