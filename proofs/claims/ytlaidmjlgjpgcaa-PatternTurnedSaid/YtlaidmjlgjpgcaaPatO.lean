/- Wild. Condition: lengths. -/
import Derived.Test.YtlaidmjlgjpgcaaPatL
namespace Go.Proofs.Ytlaidmjlgjpgcaa
open Go.RowKit
attribute [local go_sem] Oper.semAt_some
def wildB (p : List Ch) : Bool := p.any fun x => bareB x 42 || bareB x 63 || bareB x 91
theorem wild_any (av : Option Addr) (n cv : Nat) (p : List Ch) (w : World) (hn : p.length = n) (hP : ChsAt w.heap.size w av p) (hn2 : n ≤ 1000000) :
    Calls Try.prog 17 #[.slice av n cv] w (fun e w' => Below w.heap.size w w' ∧ e = .returned (.bool (wildB p))) := by
  have hnH := Lib.hid hn
  have hPH := Lib.hid hP
  clear hn hP
  go_enter Try.func17, Try.ntmps17
  go_wp2_with fail
  go_loopw [7] (fun s7 wr => ∃ k : Nat, k ≤ n ∧ s7 = .int .i64 k ∧ Hid (((p.take k).any fun x => bareB x 42 || bareB x 63 || bareB x 91) = false ∧ Below w.heap.size w wr)) (fun s7 _ => n - (intOf s7).toNat)
  case atStart => exact ⟨0, Nat.zero_le _, rfl, Lib.hid ⟨by simp, Below.refl _ _⟩⟩
  case round =>
    obtain ⟨k, hk, rfl, hRel⟩ := hrel
    have hB := hRel.out.2
    by_cases hlt : k < n
    · have hlt' : (k : Int) < (n : Int) := by omega
      obtain ⟨x, hx⟩ : ∃ x, p[k]? = some x := ⟨_, List.getElem?_eq_getElem (by rw [hnH.out]; exact hlt)⟩
      obtain ⟨g, off, rfl, hg, c0, c1⟩ := (hPH.out.below hB) k x hx
      have hxH := Lib.hid hx
      have hBH := Lib.hid hB
      have hgr : g < wr.heap.size := by have := hB.size; omega
      clear hx hB
      go_upto_region 4 with fail
      obtain ⟨wa, hwa⟩ : ∃ wa, wr.alloc (.cells #[.int .u8 (x.1.toNat : Int), .bool x.2] 33) = wa := ⟨_, rfl⟩
      rw [hwa]
      have hBa := Below.refl wa.heap.size wa
      have hcw : Hid (∀ W, Below wa.heap.size wa W → W.cell? ⟨wr.heap.size, 0, none⟩ = some (.int .u8 (x.1.toNat : Int)) ∧ W.cell? ⟨wr.heap.size, 1, none⟩ = some (.bool x.2)) := Lib.hid (fun W hW => by
        have hlt2 : wr.heap.size < wa.heap.size := by rw [← hwa]; simp
        exact ⟨(hW.cell (p := ⟨wr.heap.size, 0, none⟩) hlt2).trans (by rw [← hwa]; simp [go_sem]), (hW.cell (p := ⟨wr.heap.size, 1, none⟩) hlt2).trans (by rw [← hwa]; simp [go_sem])⟩)
      have hBw : Hid (∀ W, Below wa.heap.size wa W → Below w.heap.size w W) := Lib.hid (fun W hW => (by rw [← hwa]; exact hBH.out.alloc hBH.out.size _ : Below w.heap.size w wa).trans (hW.mono (by rw [← hwa]; have := hBH.out.size; simp; omega)))
      obtain ⟨d0, d1⟩ := hcw.out _ hBa
      obtain ⟨v42, hv42⟩ : ∃ v, bareB x 42 = v := ⟨_, rfl⟩
      obtain ⟨v63, hv63⟩ : ∃ v, bareB x 63 = v := ⟨_, rfl⟩
      obtain ⟨v91, hv91⟩ : ∃ v, bareB x 91 = v := ⟨_, rfl⟩
      have hv : Hid ((bareB x 42 || bareB x 63 || bareB x 91) = (v42 || v63 || v91)) := Lib.hid (by rw [hv42, hv63, hv91])
      have htk : Hid (p.take (k + 1) = p.take k ++ [x]) := Lib.hid (by rw [List.take_add_one, hxH.out]; rfl)
      have htr : Hid ((v42 || v63 || v91) = true → wildB p = true) := Lib.hid (fun h => List.any_eq_true.2 ⟨x, List.mem_of_getElem? hxH.out, by rw [hv.out, h]⟩)
      clear hwa c0 c1
      cases v42
      · cases v63
        · cases v91
          · go_wp2_with (first | (go_at_call 36; (with_reducible refine (bare91 _ hb6 (Nat.le_refl _)).mono ?_); rintro e w7 ⟨rfl, hb7⟩) | (go_at_call 36; (with_reducible refine (bare63 _ hb5 (Nat.le_refl _)).mono ?_); rintro e w6 ⟨rfl, hb6⟩; obtain ⟨d4, d5⟩ := hcw.out _ hb6) | (go_at_call 36; (with_reducible refine (bare42 _ hBa (Nat.le_refl _)).mono ?_); rintro e w5 ⟨rfl, hb5⟩; obtain ⟨d2, d3⟩ := hcw.out _ hb5))
            go_roundw
            case rel => exact ⟨k + 1, by omega, by go_num, Lib.hid ⟨by rw [htk.out, List.any_append, hRel.out.1]; simp [hv.out], hBw.out _ hb7⟩⟩
            case measure => simp [intOf]; omega
          · go_wp2_with (first | (go_at_call 36; (with_reducible refine (bare91 _ hb6 (Nat.le_refl _)).mono ?_); rintro e w7 ⟨rfl, hb7⟩) | (go_at_call 36; (with_reducible refine (bare63 _ hb5 (Nat.le_refl _)).mono ?_); rintro e w6 ⟨rfl, hb6⟩; obtain ⟨d4, d5⟩ := hcw.out _ hb6) | (go_at_call 36; (with_reducible refine (bare42 _ hBa (Nat.le_refl _)).mono ?_); rintro e w5 ⟨rfl, hb5⟩; obtain ⟨d2, d3⟩ := hcw.out _ hb5))
            go_ret
            exact ⟨hBw.out _ hb7, by rw [htr.out rfl]; rfl⟩
        · go_wp2_with (first | (go_at_call 36; (with_reducible refine (bare63 _ hb5 (Nat.le_refl _)).mono ?_); rintro e w6 ⟨rfl, hb6⟩; obtain ⟨d4, d5⟩ := hcw.out _ hb6) | (go_at_call 36; (with_reducible refine (bare42 _ hBa (Nat.le_refl _)).mono ?_); rintro e w5 ⟨rfl, hb5⟩; obtain ⟨d2, d3⟩ := hcw.out _ hb5))
          go_ret
          exact ⟨hBw.out _ hb6, by rw [htr.out rfl]; rfl⟩
      · go_wp2_with (go_at_call 36; (with_reducible refine (bare42 _ hBa (Nat.le_refl _)).mono ?_); rintro e w5 ⟨rfl, hb5⟩; obtain ⟨d2, d3⟩ := hcw.out _ hb5)
        go_ret
        exact ⟨hBw.out _ hb5, by rw [htr.out rfl]; rfl⟩
    · have hlt' : ¬ (k : Int) < (n : Int) := by omega
      have hkn := Lib.hid (show k = n by omega)
      have hwf : Hid (wildB p = false) := Lib.hid (by have := hRel.out.1; rw [hkn.out, List.take_of_length_le (by rw [hnH.out]; exact Nat.le_refl _)] at this; exact this)
      clear hB
      go_wp2_with fail
      go_ret
      exact ⟨hRel.out.2, by rw [hwf.out]; rfl⟩
end Go.Proofs.Ytlaidmjlgjpgcaa
