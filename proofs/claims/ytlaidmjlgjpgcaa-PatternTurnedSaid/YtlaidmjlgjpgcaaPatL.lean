/- Of: a text as a pattern. Condition: lengths. -/
import Derived.Test.YtlaidmjlgjpgcaaPatK
namespace Go.Proofs.Ytlaidmjlgjpgcaa
open Go.RowKit
attribute [local go_sem] Oper.semAt_some

set_option maxHeartbeats 1000000 in
set_option maxRecDepth 100000 in
theorem of_any (s : ByteArray) (w : World) (hs : s.size ≤ 1000000) : Calls Try.prog 23 #[.string s] w (OfR (ofL s.data.toList) w) := by
  obtain ⟨i33, hi33, hz330, hz331, hz332⟩ := info_parts info33
  obtain ⟨n₀, hn₀⟩ : ∃ n₀, w.heap.size = n₀ := ⟨_, rfl⟩
  have hn₀H := Lib.hid hn₀
  have hn₀w : n₀ ≤ w.heap.size := by omega
  obtain ⟨cur, hcur, hmk⟩ := make_chs 0 s.size (Nat.zero_le _) hs w
  obtain ⟨W1, hW1⟩ : ∃ W1, w.alloc (.cells cur 33) = W1 := ⟨_, rfl⟩
  rw [hW1, hn₀] at hmk
  have hB1 : Hid (Below n₀ w W1) := Lib.hid (by rw [← hW1, ← hn₀]; exact (Below.refl _ _).alloc (Nat.le_refl _) _)
  have hown : Hid (W1.ownsRow n₀ 33 2 (.slice (some ⟨n₀, 0, none⟩) 0 s.size) 0 []) := Lib.hid (by
    rw [← hW1, ← hn₀]
    exact World.ownsRow_made w cur s.size (Nat.le_refl _) (by unfold maxLen; omega) hcur)
  have hsl : Hid (s.data.toList.length = s.size) := Lib.hid rfl
  have hmk' : (Instr.makeSlice 22 (.int .i64 0) (.int .i64 (s.size : Int))).run Try.prog w = .ok (.slice (some ⟨n₀, 0, none⟩) 0 s.size) W1 := hmk
  clear hW1 hcur hn₀ hmk
  go_enter Try.func23, Try.ntmps23
  go_wp2_with fail
  go_loopw [4, 3] (fun s4 s3 wr => ∃ (i : Nat) (l0 : List Ch), i ≤ s.size ∧ s4 = .int .i64 i ∧ Hid (ofL s.data.toList = l0 ++ ofL (s.data.toList.drop i) ∧ l0.length ≤ i ∧ wr.ownsRow n₀ 33 2 s3 l0.length (chv l0) ∧ Below n₀ w wr)) (fun s4 _ _ => s.size - (intOf s4).toNat)
  case atStart => exact ⟨0, [], Nat.zero_le _, rfl, Lib.hid ⟨rfl, Nat.le_refl _, hown.out, hB1.out⟩⟩
  case round =>
    obtain ⟨i, l0, hi, rfl, hRel⟩ := hrel
    obtain ⟨a3, c3, rfl⟩ := ownsRow_slice hRel.out.2.2.1
    have hsz := hRel.out.2.2.2.size
    have hl0 : l0.length ≤ 1000000 := by have := hRel.out.2.1; omega
    clear hmk'
    by_cases hlt : i < s.size
    · have hlt' : (i : Int) < (s.size : Int) := by omega
      obtain ⟨c, hc⟩ : ∃ c, s[i] = c := ⟨_, rfl⟩
      have hcH : Hid (s.data.toList[i]? = some c) := Lib.hid (by rw [← hc]; exact List.getElem?_eq_getElem hlt)
      have hstep : ∀ (x : Ch) (k : Nat), ofL (s.data.toList.drop i) = x :: ofL (s.data.toList.drop k) → ofL s.data.toList = (l0 ++ [x]) ++ ofL (s.data.toList.drop k) := fun x k h => by rw [hRel.out.1, h]; simp
      have hstepH := Lib.hid hstep
      clear hstep
      by_cases h92 : c = 92
      · have e92 : (c.toNat : Int) = 92 := by rw [h92]; rfl
        by_cases hn1 : i + 1 < s.size
        · have hn1' : (i : Int) + 1 < (s.size : Int) := by omega
          obtain ⟨d, hd⟩ : ∃ d, s[i + 1] = d := ⟨_, rfl⟩
          have hdr : Hid (ofL (s.data.toList.drop i) = (d, true) :: ofL (s.data.toList.drop (i + 2))) := Lib.hid (by
            rw [drop_cons hcH.out, drop_cons (show s.data.toList[i + 1]? = some d by rw [← hd]; exact List.getElem?_eq_getElem hn1), h92, ofL_take])
          clear h92
          go_wp2_with (at_builtin; refine wpList_append_own _ rfl (.tmp 29) (.tmp 35) 22 rfl n₀ 33 i33 _ 2 2 Try.underlying22 hi33 hz330 hz331 hz332 rfl (by decide) (.slice a3 l0.length c3) l0.length (chv l0) rfl (hRel.out.2.2.1.alloc _) ⟨wr.heap.size, 0, none⟩ 1 1 [_, .bool true] rfl rfl (World.news_of_block (cs := #[_, .bool true]) (t := 33) (fr := (0, 0)) (heap_alloc_new wr _)) (by simp [Value.oneCell']) (by unfold maxLen; omega) (by omega) (by simp; omega) ?_; intro v' w3 own3 hgrow _)
          have ho3 : Hid (w3.ownsRow n₀ 33 2 v' (l0 ++ [(d, true)]).length (chv (l0 ++ [(d, true)]))) := Lib.hid (by rw [List.length_append, chv_snoc]; exact own3)
          have hb3 : Hid (Below n₀ w w3) := Lib.hid ((hRel.out.2.2.2.alloc (by omega) _).grown hgrow (by simp; omega) (fun q e => (hRel.out.2.2.1.lt q e).1))
          clear own3 hgrow
          go_wp2_with fail
          go_roundw
          case rel => exact ⟨i + 2, l0 ++ [(d, true)], by omega, by go_num, Lib.hid ⟨hstepH.out _ _ hdr.out, by rw [List.length_append, List.length_singleton]; have := hRel.out.2.1; omega, ho3.out, hb3.out⟩⟩
          case measure => simp [intOf]; omega
        · have hn1' : ¬ (i : Int) + 1 < (s.size : Int) := by omega
          have hdr : Hid (ofL (s.data.toList.drop i) = (92, true) :: ofL (s.data.toList.drop (i + 1))) := Lib.hid (by
            rw [drop_cons hcH.out, List.drop_eq_nil_of_le (i := i + 1) (by rw [hsl.out]; omega), ofL_last, h92]; rfl)
          clear h92
          go_wp2_with (at_builtin; refine wpList_append_own _ rfl (.tmp 29) (.tmp 35) 22 rfl n₀ 33 i33 _ 2 2 Try.underlying22 hi33 hz330 hz331 hz332 rfl (by decide) (.slice a3 l0.length c3) l0.length (chv l0) rfl (hRel.out.2.2.1.alloc _) ⟨wr.heap.size, 0, none⟩ 1 1 [_, .bool true] rfl rfl (World.news_of_block (cs := #[_, .bool true]) (t := 33) (fr := (0, 0)) (heap_alloc_new wr _)) (by simp [Value.oneCell']) (by unfold maxLen; omega) (by omega) (by simp; omega) ?_; intro v' w3 own3 hgrow _)
          have ho3 : Hid (w3.ownsRow n₀ 33 2 v' (l0 ++ [(92, true)]).length (chv (l0 ++ [(92, true)]))) := Lib.hid (by rw [List.length_append, chv_snoc]; exact own3)
          have hb3 : Hid (Below n₀ w w3) := Lib.hid ((hRel.out.2.2.2.alloc (by omega) _).grown hgrow (by simp; omega) (fun q e => (hRel.out.2.2.1.lt q e).1))
          clear own3 hgrow
          go_wp2_with fail
          go_roundw
          case rel => exact ⟨i + 1, l0 ++ [(92, true)], by omega, by go_num, Lib.hid ⟨hstepH.out _ _ hdr.out, by rw [List.length_append, List.length_singleton]; have := hRel.out.2.1; omega, ho3.out, hb3.out⟩⟩
          case measure => simp [intOf]; omega
      · have e92 : ¬ (c.toNat : Int) = 92 := fun e => h92 (UInt8.toNat_inj.1 (by show c.toNat = 92; omega))
        have b92 : Hid (((c.toNat : Int) == 92) = false) := Lib.hid (beq_eq_false_iff_ne.2 e92)
        have hdr : Hid (ofL (s.data.toList.drop i) = (c, false) :: ofL (s.data.toList.drop (i + 1))) := Lib.hid (by rw [drop_cons hcH.out, ofL_plain h92])
        clear h92
        go_wp2_with (at_builtin; refine wpList_append_own _ rfl (.tmp 29) (.tmp 35) 22 rfl n₀ 33 i33 _ 2 2 Try.underlying22 hi33 hz330 hz331 hz332 rfl (by decide) (.slice a3 l0.length c3) l0.length (chv l0) rfl (hRel.out.2.2.1.alloc _) ⟨wr.heap.size, 0, none⟩ 1 1 [_, .bool _] rfl rfl (World.news_of_block (cs := #[_, .bool _]) (t := 33) (fr := (0, 0)) (heap_alloc_new wr _)) (by simp [Value.oneCell']) (by unfold maxLen; omega) (by omega) (by simp; omega) ?_; intro v' w3 own3 hgrow _)
        have ho3 : Hid (w3.ownsRow n₀ 33 2 v' (l0 ++ [(c, false)]).length (chv (l0 ++ [(c, false)]))) := Lib.hid (by rw [b92.out] at own3; rw [List.length_append, chv_snoc]; exact own3)
        have hb3 : Hid (Below n₀ w w3) := Lib.hid ((hRel.out.2.2.2.alloc (by omega) _).grown hgrow (by simp; omega) (fun q e => (hRel.out.2.2.1.lt q e).1))
        clear own3 hgrow
        go_wp2_with fail
        go_roundw
        case rel => exact ⟨i + 1, l0 ++ [(c, false)], by omega, by go_num, Lib.hid ⟨hstepH.out _ _ hdr.out, by rw [List.length_append, List.length_singleton]; have := hRel.out.2.1; omega, ho3.out, hb3.out⟩⟩
        case measure => simp [intOf]; omega
    · have hlt' : ¬ (i : Int) < (s.size : Int) := by omega
      obtain rfl : i = s.size := by omega
      have hnil : Hid (ofL s.data.toList = l0) := Lib.hid (by rw [hRel.out.1, List.drop_eq_nil_of_le (by rw [hsl.out]; exact Nat.le_refl _)]; exact List.append_nil _)
      go_wp2_with fail
      go_ret
      refine ⟨by rw [hn₀H.out]; exact hRel.out.2.2.2, _, rfl, ?_⟩
      rw [hn₀H.out, hnil.out]
      exact hRel.out.2.2.1
end Go.Proofs.Ytlaidmjlgjpgcaa
