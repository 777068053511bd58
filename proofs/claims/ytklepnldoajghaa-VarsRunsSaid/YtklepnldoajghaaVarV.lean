/- The contract of the document's Texts at two lists of the same texts. No condition. -/
import Derived.Test.YtklepnldoajghaaVarU
namespace Go.Proofs.Ytklepnldoajghaa
open Go.RowKit Go.Shelf Go.PlainAid

theorem TxAt.get {w : World} {v : Value} {K : List ByteArray} (h : TxAt w v K) : ∃ a c, v = .slice a K.length c ∧ ∀ j x, K[j]? = some x → ∃ b off, a = some ⟨b, off, none⟩ ∧ w.cell? ⟨b, off + j, none⟩ = some (.string x) := by
  rcases h with ⟨rfl, rfl⟩ | ⟨b, off, c, rfl, _, h⟩
  · exact ⟨none, 0, rfl, fun j x h => by simp at h⟩
  · exact ⟨_, c, rfl, fun j x hx => ⟨b, off, rfl, h j _ (by rw [flat_kcs, List.getElem?_map, hx]; rfl)⟩⟩

set_option maxHeartbeats 400000 in
theorem texts_same {v1 v2 : Value} {K : List ByteArray} (w : World) (h1 : TxAt w v1 K) (h2 : TxAt w v2 K) (hm : K.length ≤ 100000) : Calls Try.prog 28 #[v1, v2] w fun e w' => e = .returned (.bool true) ∧ Below w.heap.size w w' := by
  obtain ⟨a1, c1, rfl, hc1⟩ := h1.get
  obtain ⟨a2, c2, rfl, hc2⟩ := h2.get
  have H1 := Lib.hid hc1
  have H2 := Lib.hid hc2
  clear hc1 hc2 h1 h2
  obtain ⟨n, hn⟩ : ∃ n, K.length = n := ⟨_, rfl⟩
  rw [hn] at hm ⊢
  have hnH := Lib.hid hn
  clear hn
  go_enter Try.func28, Try.ntmps28
  go_wp2
  go_loopw [5] (fun i wr => ∃ j : Nat, j ≤ n ∧ i = .int .i64 j ∧ ∃ m, wr = w.drewN m) (fun i _ => n - (intOf i).toNat)
  case atStart => exact ⟨0, Nat.zero_le _, rfl, 0, rfl⟩
  case round =>
    obtain ⟨j, hj, rfl, m, rfl⟩ := hrel
    by_cases hlt : j < n
    · obtain ⟨x, hx⟩ : ∃ x, K[j]? = some x := ⟨_, List.getElem?_eq_getElem (by rw [hnH.out]; exact hlt)⟩
      obtain ⟨g1, o1, rfl, c1⟩ := H1.out j x hx
      obtain ⟨g2, o2, rfl, c2⟩ := H2.out j x hx
      clear hx
      have hi : (j : Int) < (n : Int) := by omega
      go_wp2
      go_quiet (fail)
      go_wp2
      go_roundw
      case rel => exact ⟨j + 1, by omega, by go_num, ⟨_, rfl⟩⟩
      case measure => simp [intOf]; omega
    · go_wp2
      go_ret
      exact ⟨rfl, Below.drewN_ m (Below.refl _ _)⟩
end Go.Proofs.Ytklepnldoajghaa
