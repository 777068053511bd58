/- The walk of the law TableFills: true at every input. No condition. -/
import Derived.Test.YtifoanmoadogoaaTabE
import Derived.Test.YtifoanmoadogoaaPipeO
import Derived.Deep.WholeRow
namespace Go.Proofs.Ytifoanmoadogoaa
open Go.RowKit

/-- The law's own list of what is taken. -/
structure HasAt (w : World) (H : Nat) (f : Nat → Sl) : Prop where
  c : ∀ i, i < 32 → w.cell? ⟨H, i, none⟩ = some (.bool (f i).tk)
  fz : ∀ o, w.frozen? ⟨H, o, none⟩ = false

theorem HasAt.keep {w w' : World} {H : Nat} {f : Nat → Sl} (h : HasAt w H f) (k : w'.heap[H]? = w.heap[H]?) : HasAt w' H f :=
  ⟨fun i hi => (cell_of_heap (a := ⟨H, i, none⟩) k).trans (h.c i hi), fun o => (frozen_of_heap (a := ⟨H, o, none⟩) k).trans (h.fz o)⟩
theorem HasAt.put {w : World} {H : Nat} {f : Nat → Sl} (h : HasAt w H f) (i : Nat) (hi : i < 32) (s : Sl) : HasAt (w.setCell ⟨H, i, none⟩ (.bool s.tk)) H (upd f i s) := by
  refine ⟨fun j hj => ?_, fun o => by rw [World.frozen?_setCell]; exact h.fz o⟩
  by_cases e : j = i
  · subst e; rw [cell_set_same (h.c j hi) rfl]; simp [upd]
  · rw [cell_set_ne (by omega), h.c j hj]; simp [upd, e]

def boolZero : Array Value := (Array.range 32).map fun _ => .bool false
theorem zero84 (w : World) : (zeroValue 84).run Try.prog w = .ok (.agg boolZero) w := by kernel_rfl
theorem has_made (w : World) : HasAt (w.alloc (.cells boolZero 84)) w.heap.size (fun _ => Sl.none) := by
  have hB := heap_made w (.cells boolZero 84)
  refine ⟨fun i hi => ?_, fun o => by unfold World.frozen?; rw [hB]; simp⟩
  simp only [World.cell?, hB]
  simp [boolZero, hi, Sl.none]

theorem boolZero_size : boolZero.size = 32 := by simp [boolZero]
theorem boolZero_store (w : World) : (storeCells ⟨w.heap.size, 0, none⟩ boolZero.toList).run Try.prog (w.alloc (.cells boolZero 84)) = .ok () (w.alloc (.cells boolZero 84)) :=
  run_storeCells_new w 84 boolZero boolZero (by kernel_rfl) rfl (by kernel_rfl)

theorem first_free (f : Nat → Sl) : (∃ j, j < 32 ∧ (f j).tk = false ∧ ∀ k, k < j → (f k).tk = true) ∨ ∀ k, k < 32 → (f k).tk = true := by
  have : ∀ n, (∃ j, j < n ∧ (f j).tk = false ∧ ∀ k, k < j → (f k).tk = true) ∨ ∀ k, k < n → (f k).tk = true := by
    intro n
    induction n with
    | zero => exact .inr (fun k hk => absurd hk (by omega))
    | succ n ih =>
      rcases ih with ⟨j, h1, h2, h3⟩ | h
      · exact .inl ⟨j, by omega, h2, h3⟩
      · cases hn : (f n).tk
        · exact .inl ⟨n, by omega, hn, h⟩
        · refine .inr (fun k hk => ?_)
          by_cases e : k = n
          · subst e; exact hn
          · exact h k (by omega)
  exact this 32

set_option maxRecDepth 100000 in
set_option maxHeartbeats 4000000 in
theorem tableFills_walk (A0 : Option Addr) (l0 c0 : Nat) (A1 : Option Addr) (l1 c1 : Nat) (w : World) (h0 : IntsAt w.heap.size w A0 l0) (h1 : IntsAt w.heap.size w A1 l1) :
    Calls Try.prog 8 #[.slice A0 l0 c0, .slice A1 l1 c1] w fun e w' => e = .returned (.bool true) ∧ Below w.heap.size w w' := by
  have hl0 := h0.1
  have hl1 := h1.1
  unfold maxLen at hl0 hl1
  have H0 := Lib.hid h0
  have H1 := Lib.hid h1
  clear h0 h1
  by_cases hl2 : (100 : Int) < l0
  · go_enter Try.func8, Try.ntmps8
    go_wp2_with (go_at_call 24; refine (tawake_any _).mono ?_; rintro e w1 ⟨rfl, hB1⟩)
    go_ret
    exact ⟨rfl, hB1⟩
  · have hz := zero84
    have hbs := boolZero_size
    have hst := boolZero_store
    go_enter Try.func8, Try.ntmps8
    go_wp2_with (first
      | (go_at_call 24; refine (tawake_any _).mono ?_; rintro e w1 ⟨rfl, hB1⟩)
      | (go_at_call 25; refine (tnew_any _).mono ?_; rintro e w2 ⟨rfl, hT2, hB2⟩))
    clear hz hbs hst
    have hs1 := hB1.size
    have hs2 := hB2.size
    have hlT := hT2.lt
    have hHa : HasAt (w2.alloc (.cells boolZero 84)) w2.heap.size (fun _ => Sl.none) := has_made w2
    have hTa := hT2.keep (w' := w2.alloc (.cells boolZero 84)) (Below.heap_alloc _ _ _ hlT)
    have hBa : Below w.heap.size w (w2.alloc (.cells boolZero 84)) := (hB1.trans (hB2.mono hs1)).alloc (by omega) _
    obtain ⟨T, hT⟩ : ∃ T, w1.heap.size = T := ⟨_, rfl⟩
    obtain ⟨H, hH⟩ : ∃ H, w2.heap.size = H := ⟨_, rfl⟩
    rw [hT] at hTa
    rw [hH] at hHa
    rw [hT, hH]
    have hTw : w.heap.size ≤ T := by omega
    have hHw : w.heap.size ≤ H := by omega
    have hHT : H ≠ T := by omega
    have hS := Lib.hid (And.intro hTa (And.intro hHa hBa))
    clear hT hH hB1 hB2 hT2 hs1 hs2 hlT hHa hTa hBa
    go_loopw [23] (fun i wr => ∃ j : Nat, j ≤ l0 ∧ i = .int .i64 j ∧ (∃ f, TabAt wr T f ∧ HasAt wr H f) ∧ Below w.heap.size w wr) (fun i _ => l0 - (intOf i).toNat)
    case atStart => exact ⟨0, Nat.zero_le _, rfl, ⟨_, hS.out.1, hS.out.2.1⟩, hS.out.2.2⟩
    case round =>
      obtain ⟨j, hj, rfl, ⟨f, hTf, hHf⟩, hBel⟩ := hrel
      have hTH := Lib.hid hTf
      have hHH := Lib.hid hHf
      clear hTf hHf hS
      by_cases hjl : j < l0
      · obtain ⟨b, off, x, rfl, hb, hcell, hx⟩ := (H0.out.below hBel).2 j hjl
        obtain ⟨m, hm, hm1, hm2⟩ : ∃ m, m ≤ 32 ∧ Hid (∀ k, k < m → (f k).tk = true) ∧ Hid (m < 32 → (f m).tk = false) := by
          rcases first_free f with ⟨q, h1, h2, h3⟩ | h
          · exact ⟨q, by omega, h3, fun _ => h2⟩
          · exact ⟨32, by omega, h, fun g => absurd g (by omega)⟩
        go_upto_block 2 with fail
        go_cut [9] (fun s9 wx => s9 = .int .i64 m ∧ wr = wx)
        case first =>
          go_wp2_with fail
          go_loop [9] (fun s9 => ∃ k : Nat, k ≤ m ∧ s9 = .int .i64 k) (fun s9 => 32 - (intOf s9).toNat)
          case atStart => exact ⟨0, by omega, rfl⟩
          case round =>
            obtain ⟨k, hk, rfl⟩ := hrel
            by_cases hkm : k < m
            · have c := hHH.out.c k (by omega)
              rw [hm1.out k hkm] at c
              have hk' : (k : Int) < 32 := by omega
              go_wp2
              go_round
              case rel => exact ⟨k + 1, by omega, by go_num⟩
              case measure => simp [intOf]; omega
            · obtain rfl : k = m := by omega
              by_cases hk32 : k < 32
              · have c := hHH.out.c k hk32
                rw [hm2.out hk32] at c
                have hk' : (k : Int) < 32 := by omega
                go_wp2
                go_meet
                exact ⟨rfl, rfl⟩
              · have hk' : ¬ (k : Int) < 32 := by omega
                go_wp2
                go_meet
                exact ⟨rfl, rfl⟩
        case rest =>
          obtain ⟨rfl, rfl⟩ := hcut
          go_upto_region 13 with fail
          go_cut [10, 11] (fun s10 s11 wx => ((m < 32 ∧ s10 = .int .i64 m ∧ s11 = .int .i64 0 ∧ TabAt wx T (upd f m ⟨true, false, x⟩)) ∨ (m = 32 ∧ s10 = .int .i64 0 ∧ s11 = .int .i64 24 ∧ TabAt wx T f)) ∧ HasAt wx H f ∧ Below w.heap.size w wx)
          case first =>
            by_cases hm32 : m < 32
            · go_wp2_with fail
              refine (put_in x 0 m (Nat.zero_le _) hm32 _ hTH.out (fun k _ hk => hm1.out k hk) (hm2.out hm32)).mono ?_
              rintro e w4 ⟨rfl, hT4, hF4⟩
              have hT4' := Lib.hid hT4
              clear hT4
              go_wp2_with fail
              go_meet
              exact ⟨.inl ⟨hm32, rfl, rfl, hT4'.out⟩, hHH.out.keep (hF4.block H (block_of_cell (hHH.out.c 0 (by omega))) hHT hHT), hBel.trans (hF4.below hBel.size hTw hTw)⟩
            · have hm' : m = 32 := by omega
              go_wp2_with fail
              refine (put_full x 0 (by omega) _ hTH.out (fun k _ hk => hm1.out k (by omega))).mono ?_
              rintro e w4 ⟨rfl, rfl⟩
              have hmH := Lib.hid hm'
              clear hm'
              go_wp2_with fail
              go_meet
              exact ⟨.inr ⟨hmH.out, rfl, rfl, hTH.out⟩, hHH.out, hBel⟩
          case rest =>
            obtain ⟨hc1, hc2, hc3⟩ := hcut
            have hc1H := Lib.hid hc1
            have hc2H := Lib.hid hc2
            clear hc1 hc2 hTH hHH hBel
            go_upto_if 44 with fail
            have hw5 := Lib.hid (Eq.refl wc)
            generalize wc = w5 at hc1H hc2H hc3 hw5 ⊢
            clear hw5
            go_cut [] (fun wx => (∃ f', TabAt wx T f' ∧ HasAt wx H f') ∧ Below w.heap.size w wx)
            case first =>
              have hf0 := hc2H.out.fz m
              rcases hc1H.out with ⟨hm32, rfl, rfl, hT4⟩ | ⟨hm', rfl, rfl, hT4⟩
              · have c := hc2H.out.c m hm32
                have hm32' : (m : Int) < 32 := by omega
                have hne : ((m : Int) == 32) = false := by simp; omega
                have hT5 := Lib.hid (hT4.keep (w' := w5.setCell ⟨H, m, none⟩ (.bool true)) (Below.heap_setCell _ _ _ _ (by simp only; omega)))
                clear hT4
                go_wp2
                go_meet
                exact ⟨⟨_, hT5.out, hc2H.out.put m hm32 ⟨true, false, x⟩⟩, hc3.setCell (p := ⟨H, m, none⟩) hHw _⟩
              · have hT5 := Lib.hid hT4
                have hne : ((m : Int) == 32) = true := by simp; omega
                clear hT4 hm' hm
                go_wp2
                go_meet
                exact ⟨⟨f, hT5.out, hc2H.out⟩, hc3⟩
            case rest =>
              obtain ⟨⟨f', hT6, hH6⟩, hB6⟩ := hcut
              have hT6H := Lib.hid hT6
              have hH6H := Lib.hid hH6
              clear hT6 hH6 hc1H hc2H hc3 hm1 hm2 hm
              by_cases g1 : j < l1
              · obtain ⟨b1, off1, v, rfl, hb1, hcell1, hv⟩ := (H1.out.below hB6).2 j g1
                by_cases g2 : 0 ≤ v
                · by_cases g3 : v < 32
                  · obtain ⟨q, rfl⟩ := Int.eq_ofNat_of_zero_le g2
                    have hq : q < 32 := by omega
                    have cH := hH6H.out.c q hq
                    have fH := hH6H.out.fz q
                    have hlH : H < wc.heap.size := block_of_cell cH
                    cases htk : (f' q).tk
                    · rw [htk] at cH
                      have hg := get_in q hq _ hT6H.out
                      rw [Sl.val, Sl.err, htk] at hg
                      simp only [Bool.false_eq_true, if_false] at hg
                      have hgH := Lib.hid hg
                      have htkH := Lib.hid htk
                      clear hg htk
                      go_wp2_with (go_at_call 32; refine (cut_none _ _ hgH).mono ?_; rintro e w7 ⟨rfl, rfl⟩)
                      go_roundw
                      case rel =>
                        refine ⟨j + 1, by omega, by go_num, ⟨f', hT6H.out.keep (Below.heap_setCell _ _ _ _ (by simp only; omega)), ?_⟩, hB6.setCell (p := ⟨H, q, none⟩) hHw _⟩
                        have := hH6H.out.put q hq (f' q)
                        rw [htkH.out] at this
                        have e : upd f' q (f' q) = f' := by
                          funext i; unfold upd; split
                          · rename_i h; rw [h]
                          · rfl
                        rw [e] at this
                        exact this
                      case measure => simp [intOf]; omega
                    · rw [htk] at cH
                      have hcut' := Lib.hid (cut_in q hq _ hT6H.out htk)
                      clear htk
                      go_wp2_with fail
                      refine hcut'.out.mono ?_
                      rintro e w7 ⟨rfl, hT7, hF7⟩
                      have hH7 := hH6H.out.keep (hF7.block H hlH hHT hHT)
                      have cH7 := (cell_of_heap (a := ⟨H, q, none⟩) (hF7.block H hlH hHT hHT)).trans cH
                      have fH7 := (frozen_of_heap (a := ⟨H, q, none⟩) (hF7.block H hlH hHT hHT)).trans fH
                      have hbT : b1 ≠ T := by omega
                      have hlb : b1 < wc.heap.size := block_of_cell (a := ⟨b1, off1 + j, none⟩) hcell1
                      have hcell7 := (cell_of_heap (a := ⟨b1, off1 + j, none⟩) (hF7.block b1 hlb hbT hbT)).trans hcell1
                      have hB7 := hB6.trans (hF7.below hB6.size hTw hTw)
                      have hT7H := Lib.hid hT7
                      have hH7H := Lib.hid hH7
                      clear hT7 hH7 hF7 cH fH hcell1
                      go_wp2
                      go_roundw
                      case rel =>
                        exact ⟨j + 1, by omega, by go_num, ⟨_, hT7H.out.keep (Below.heap_setCell _ _ _ _ (by simp only; omega)), hH7H.out.put q hq Sl.none⟩, hB7.setCell (p := ⟨H, q, none⟩) hHw _⟩
                      case measure => simp [intOf]; omega
                  · go_wp2
                    go_roundw
                    case rel => exact ⟨j + 1, by omega, by go_num, ⟨_, hT6H.out, hH6H.out⟩, hB6⟩
                    case measure => simp [intOf]; omega
                · go_wp2
                  go_roundw
                  case rel => exact ⟨j + 1, by omega, by go_num, ⟨_, hT6H.out, hH6H.out⟩, hB6⟩
                  case measure => simp [intOf]; omega
              · go_wp2
                go_roundw
                case rel => exact ⟨j + 1, by omega, by go_num, ⟨_, hT6H.out, hH6H.out⟩, hB6⟩
                case measure => simp [intOf]; omega
      · go_wp2
        go_ret
        exact ⟨rfl, hBel⟩
end Go.Proofs.Ytifoanmoadogoaa
