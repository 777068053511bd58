/- The contract of the document's Texts at two lists of the same texts. No condition. -/
import Derived.Test.YtgadnlnclpoeaaaDoorOctS
namespace Go.Proofs.YtgadnlnclpoeaaaDoor
open Go.RowKit Go.Shelf Go.PlainAid

/-- A slice that reads as these lines. -/
def TxtAt (w : World) (v : Value) (l : List Line) : Prop :=
  (v = .slice none 0 0 ∧ l = []) ∨ ∃ g cap, v = .slice (some ⟨g, 0, none⟩) l.length cap ∧ l.length ≤ maxLen ∧ ∀ j x, l[j]? = some x → w.cell? ⟨g, j, none⟩ = some (.string x.1)

theorem txt_of {w : World} {B : Nat} {v : Value} {l : List Line} (h : w.ownsRow B 9 1 v l.length (svals l)) : TxtAt w v l := by
  have hc := @World.ownsRow.cells _ _ _ _ _ _ _ h
  rcases h.2 with ⟨rfl, h0⟩ | ⟨g, cap, cur, rfl, _, _, hm1, hm2, _⟩
  · exact .inl ⟨rfl, List.eq_nil_of_length_eq_zero h0⟩
  · refine .inr ⟨g, cap, rfl, by omega, fun j x hx => ?_⟩
    have := hc (g := g) rfl j (.string x.1) (by unfold svals; rw [List.getElem?_map, hx]; rfl)
    rw [← this]
    congr 1
    simp [Addr.add]

/-- What it comes to. -/
def Drawn (w : World) (e : Ending) (w' : World) : Prop := e = .returned (.bool true) ∧ ∃ n, w' = w.drewN n

set_option maxHeartbeats 400000 in
theorem texts_same (v1 v2 : Value) (l : List Line) (w : World) (h1 : TxtAt w v1 l) (h2 : TxtAt w v2 l) : Calls Tryd.prog 25 #[v1, v2] w (Drawn w) := by
  rcases h1 with ⟨rfl, rfl⟩ | ⟨g, cap, rfl, hm, hc⟩
  · rcases h2 with ⟨rfl, _⟩ | ⟨g2, cap2, rfl, hm2, hc2⟩
    · go_enter Tryd.func25, Tryd.ntmps25
      go_wp2
      go_loop [5] (fun i => i = .int .i64 0) (fun _ => 0)
      case atStart => rfl
      case round =>
        subst hrel
        go_wp2
        go_ret
        exact ⟨rfl, 0, rfl⟩
    · clear hc2
      go_enter Tryd.func25, Tryd.ntmps25
      go_wp2
      go_loop [5] (fun i => i = .int .i64 0) (fun _ => 0)
      case atStart => rfl
      case round =>
        subst hrel
        go_wp2
        go_ret
        exact ⟨rfl, 0, rfl⟩
  · have h2' : ∃ a2 cap2, v2 = .slice a2 l.length cap2 ∧ (∀ j x, l[j]? = some x → ∃ g2, a2 = some ⟨g2, 0, none⟩ ∧ w.cell? ⟨g2, j, none⟩ = some (.string x.1)) := by
      rcases h2 with ⟨rfl, rfl⟩ | ⟨g2, cap2, rfl, _, hc2⟩
      · exact ⟨none, 0, rfl, fun j x h => by simp at h⟩
      · exact ⟨_, cap2, rfl, fun j x h => ⟨g2, rfl, hc2 j x h⟩⟩
    obtain ⟨a2, cap2, rfl, hc2⟩ := h2'
    unfold maxLen at hm
    have H1 := Lib.hid hc
    have H2 := Lib.hid hc2
    clear hc hc2 h2
    obtain ⟨n, hn⟩ : ∃ n, l.length = n := ⟨_, rfl⟩
    rw [hn] at hm ⊢
    have hnH := Lib.hid hn
    clear hn
    go_enter Tryd.func25, Tryd.ntmps25
    go_wp2
    go_loopw [5] (fun i wr => ∃ j : Nat, j ≤ n ∧ i = .int .i64 j ∧ ∃ m, wr = w.drewN m) (fun i _ => n - (intOf i).toNat)
    case atStart => exact ⟨0, Nat.zero_le _, rfl, 0, rfl⟩
    case round =>
      obtain ⟨j, hj, rfl, m, rfl⟩ := hrel
      by_cases hlt : j < n
      · obtain ⟨x, hx⟩ : ∃ x, l[j]? = some x := ⟨_, List.getElem?_eq_getElem (by rw [hnH.out]; exact hlt)⟩
        have c1 := H1.out j x hx
        obtain ⟨g2, rfl, c2⟩ := H2.out j x hx
        clear hx
        have hi : (j : Int) < (n : Int) := by omega
        go_wp2
        go_quiet (fail)
        go_wp2
        go_roundw
        case rel => exact ⟨j + 1, by omega, by go_num, ⟨_, rfl⟩⟩
        case measure => simp [intOf]; omega
      · go_wp2
        go_ret
        exact ⟨rfl, m, rfl⟩
end Go.Proofs.YtgadnlnclpoeaaaDoor
