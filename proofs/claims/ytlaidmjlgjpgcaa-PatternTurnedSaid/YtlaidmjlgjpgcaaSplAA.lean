/- The contract of the reference's Text, of a text that is not empty. Condition: lengths. -/
import Derived.Test.YtlaidmjlgjpgcaaSplY
import Derived.Test.YtlaidmjlgjpgcaaSplN
namespace Go.Proofs.Ytlaidmjlgjpgcaa
open Go.RowKit
attribute [local go_sem] Oper.semAt_some

set_option maxHeartbeats 2000000 in
set_option maxRecDepth 100000 in
theorem refText_any (u : Value) (f : List Ch) (w : World) (hv : FldView w u f) (hl : f.length ≤ 100000) (h0 : 0 < f.length) :
    Calls Try.prog 30 #[u] w fun e w' => e = .returned (.string ⟨(txt f).toArray⟩) ∧ Below w.heap.size w w' := by
  obtain ⟨i0, hi, hz0, hz1, hz2⟩ := info_parts info5
  obtain ⟨a, c, rfl, hg⟩ := hv
  obtain ⟨n, hn⟩ : ∃ n, f.length = n := ⟨_, rfl⟩
  obtain ⟨B, hB⟩ : ∃ B, w.heap.size = B := ⟨_, rfl⟩
  rw [hn] at hl h0 ⊢
  rw [hB]
  have hnH := Lib.hid hn
  have hBH := Lib.hid hB
  have hgH := Lib.hid hg
  clear hn hB hg
  go_enter Try.func30, Try.ntmps30
  go_wp2_with fail
  go_loopw [4, 3] (fun s4 s3 wr => ∃ k : Nat, k ≤ n ∧ s4 = .int .i64 k ∧ wr.ownsRow B 5 1 s3 k (Lib.byteCells (txt (f.take k))) ∧ Below B w wr) (fun s4 _ _ => n - (intOf s4).toNat)
  case atStart => exact ⟨0, Nat.zero_le _, rfl, World.ownsRow_nil _ _ _ _, Below.refl _ _⟩
  case round =>
    obtain ⟨k, hk, rfl, hown, hbel⟩ := hrel
    obtain ⟨a3, c3, rfl⟩ := ownsRow_slice hown
    have hsz := hbel.size
    have hBs := hBH.out
    by_cases hlt : k < n
    · obtain ⟨x, hx⟩ : ∃ x, f[k]? = some x := ⟨_, List.getElem?_eq_getElem (by rw [hnH.out]; exact hlt)⟩
      obtain ⟨h, rfl, x1, _⟩ := hgH.out k x hx
      have hb := blk_lt x1
      have d1 := (hbel.cell (p := ⟨h, k * 2, none⟩) (by show h < B; omega)).trans x1
      have hlt' : (k : Int) < (n : Int) := by omega
      have hoH := Lib.hid hown
      have hbH := Lib.hid hbel
      have hxH := Lib.hid hx
      clear hown hbel hx x1
      go_wp2_with (at_builtin; refine wpList_append_own _ rfl (.tmp 11) (.tmp 17) 35 rfl B 5 i0 (.int .u8 0) 1 1 Try.underlying35 hi hz0 hz1 hz2 rfl (by decide) (.slice a3 k c3) k (Lib.byteCells (txt (f.take k))) rfl (hoH.out.alloc _) ⟨wr.heap.size, 0, none⟩ 1 1 [.int .u8 (x.1.toNat : Int)] rfl rfl (cell_one_new wr _ 5) (by simp [Value.oneCell']) (by unfold maxLen; omega) (by omega) (by simp; omega) ?_; intro v' w2 own2 hgrow _)
      have ho2 := Lib.hid own2
      have hb2 : Hid (Below B w w2) := Lib.hid ((hbH.out.alloc (by omega) _).grown hgrow (by simp; omega) (fun q e => (hoH.out.lt q e).1))
      clear own2 hgrow
      go_wp2_with fail
      go_roundw
      case rel =>
        have ht : txt (f.take (k + 1)) = txt (f.take k) ++ [x.1] := by rw [snoc_take hxH.out]; unfold txt; rw [List.map_append]; rfl
        exact ⟨k + 1, by omega, by go_num, by rw [ht, byteCells_snoc]; exact ho2.out, hb2.out⟩
      case measure => simp [intOf]; omega
    · have hlt' : ¬ (k : Int) < (n : Int) := by omega
      obtain rfl : k = n := by omega
      have htk : f.take k = f := by rw [← hnH.out, List.take_length]
      rw [htk] at hown
      have hc := @World.ownsRow.cells _ _ _ _ _ _ _ hown
      have htl : (txt f).length = k := by unfold txt; rw [List.length_map, hnH.out]
      rcases hown.2 with ⟨_, h00⟩ | ⟨g, cap, cur, hv3, _, hb3, _⟩
      · omega
      · obtain ⟨rfl, -, rfl⟩ := Value.slice.inj hv3
        have hr := run_convert_bytes_back (P := Try.prog) wr 35 9 5 ⟨g, 0, none⟩ c3 (txt f) Try.underlying35 Try.underlying5 Try.underlying9 (fun j hj => by
          refine hc (g := g) rfl j _ ?_
          unfold Lib.byteCells
          rw [List.getElem?_map, List.getElem?_eq_getElem hj]; rfl)
        rw [htl] at hr
        have hbH := Lib.hid hbel
        clear hown hc hbel hb3 hv3
        go_wp2_with fail
        go_ret
        exact ⟨rfl, hbH.out⟩
end Go.Proofs.Ytlaidmjlgjpgcaa
