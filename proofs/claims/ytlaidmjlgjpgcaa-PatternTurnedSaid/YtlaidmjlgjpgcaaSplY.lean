/- The contract of Same, of two lists that hold the same. No condition but lengths. -/
import Derived.Test.YtlaidmjlgjpgcaaSplI
import Derived.BigQuiet
import Derived.Laws.StructEq
namespace Go.Proofs.Ytlaidmjlgjpgcaa
open Go.RowKit
attribute [local go_sem] Oper.semAt_some

/-- What a field's slice holds; what a list's. -/
def FldView (W : World) (u : Value) (f : List Ch) : Prop := ∃ a c, u = .slice a f.length c ∧ ∀ (j : Nat) (x : Ch), f[j]? = some x → ∃ h, a = some ⟨h, 0, none⟩ ∧ W.cell? ⟨h, j * 2, none⟩ = some (.int .u8 (x.1.toNat : Int)) ∧ W.cell? ⟨h, j * 2 + 1, none⟩ = some (.bool x.2)
def LstView (W : World) (a : Option Addr) (L : List (List Ch)) : Prop := ∀ (i : Nat) (f : List Ch), L[i]? = some f → ∃ g u, a = some ⟨g, 0, none⟩ ∧ W.cell? ⟨g, i, none⟩ = some u ∧ FldView W u f
theorem fld_view {n₀ : Nat} {W : World} {u : Value} {f : List Ch} (h : W.ownsRow n₀ 33 2 u f.length (chv f)) : FldView W u f := by
  have hc := @World.ownsRow.cells _ _ _ _ _ _ _ h
  rcases h.2 with ⟨rfl, h0⟩ | ⟨g, cap, cur, rfl, _, hb, _⟩
  · exact ⟨none, 0, by rw [h0], fun j x hx => by have := (List.getElem?_eq_some_iff.1 hx).1; omega⟩
  · refine ⟨_, _, rfl, fun j x hx => ⟨g, rfl, ?_, ?_⟩⟩
    · have := hc (g := g) rfl _ _ (chv_get hx).1
      rw [Lib.add_plain, Nat.zero_add] at this; exact this
    · have := hc (g := g) rfl _ _ (chv_get hx).2
      rw [Lib.add_plain, Nat.zero_add] at this; exact this
theorem FlsAt.view {n₀ : Nat} {W : World} {v : Value} {L : List (List Ch)} (h : FlsAt n₀ W v L) : ∃ a c, v = .slice a L.length c ∧ LstView W a L := by
  obtain ⟨a, c, rfl, _, hg⟩ := h.get
  exact ⟨a, c, rfl, fun i f hf => by
    obtain ⟨g, u, h1, _, _, h2, h3⟩ := hg i f hf
    exact ⟨g, u, h1, h2, fld_view h3⟩⟩

theorem drew_add (w : World) (a b : Nat) : (w.drewN a).drewN b = w.drewN (a + b) := by unfold World.drewN; simp [Nat.add_assoc]

set_option maxHeartbeats 4000000 in
set_option maxRecDepth 100000 in
theorem same_yes (a b : Option Addr) (c d : Nat) (L : List (List Ch)) (hl : L.length ≤ 100000) (hf : ∀ f ∈ L, f.length ≤ 100000) (w : World) (ha : LstView w a L) (hb : LstView w b L) :
    Calls Try.prog 31 #[.slice a L.length c, .slice b L.length d] w fun e w' => e = .returned (.bool true) ∧ ∃ m, w' = w.drewN m := by
  obtain ⟨n, hn⟩ : ∃ n, L.length = n := ⟨_, rfl⟩
  rw [hn] at hl ⊢
  have hnH := Lib.hid hn
  have haH := Lib.hid ha
  have hbH := Lib.hid hb
  have hfH := Lib.hid hf
  clear hn ha hb hf
  go_enter Try.func31, Try.ntmps31
  go_wp2_with fail
  go_loopw [5] (fun s5 wr => ∃ i : Nat, i ≤ n ∧ s5 = .int .i64 i ∧ ∃ m, wr = w.drewN m) (fun s5 _ => n - (intOf s5).toNat)
  case atStart => exact ⟨0, Nat.zero_le _, rfl, 0, rfl⟩
  case round =>
    obtain ⟨i, hi, rfl, m, rfl⟩ := hrel
    by_cases hil : i < n
    · obtain ⟨f, hfi⟩ : ∃ f, L[i]? = some f := ⟨_, List.getElem?_eq_getElem (by rw [hnH.out]; exact hil)⟩
      obtain ⟨g, u, rfl, hc1, au, cu, rfl, hu⟩ := haH.out i f hfi
      obtain ⟨g', u', rfl, hc2, au', cu', rfl, hu'⟩ := hbH.out i f hfi
      have hfl := hfH.out f (List.mem_of_getElem? hfi)
      have d1 : (w.drewN m).cell? ⟨g, i, none⟩ = some (.slice au f.length cu) := hc1
      have d2 : (w.drewN m).cell? ⟨g', i, none⟩ = some (.slice au' f.length cu') := hc2
      have hil' : (i : Int) < (n : Int) := by omega
      have hc1H := Lib.hid hc1
      have hc2H := Lib.hid hc2
      have huH := Lib.hid hu
      have huH' := Lib.hid hu'
      obtain ⟨k, hk⟩ : ∃ k, f.length = k := ⟨_, rfl⟩
      rw [hk] at d1 d2 hfl
      have hkH := Lib.hid hk
      clear hc1 hc2 hu hu' hk
      obtain ⟨wq, hwq⟩ : ∃ wq, w.drewN m = wq := ⟨_, rfl⟩
      have hwqH := Lib.hid hwq
      rw [hwq] at d1 d2 ⊢
      clear hwq
      go_upto_region 6 with fail
      go_quiet (fail)
      go_wp2_with fail
      clear d1 d2
      go_loopw [6] (fun s6 wx => ∃ j : Nat, j ≤ k ∧ s6 = .int .i64 j ∧ ∃ m', wx = w.drewN m') (fun s6 _ => k - (intOf s6).toNat)
      case atStart => exact ⟨0, Nat.zero_le _, rfl, by rw [← hwqH.out]; exact ⟨_, drew_add _ _ _⟩⟩
      case round =>
        obtain ⟨j, hj, rfl, m', rfl⟩ := hrel
        clear hwqH
        have e1 : (w.drewN m').cell? ⟨g, i, none⟩ = some (.slice au k cu) := by rw [← hkH.out]; exact hc1H.out
        have e2 : (w.drewN m').cell? ⟨g', i, none⟩ = some (.slice au' k cu') := by rw [← hkH.out]; exact hc2H.out
        by_cases hjl : j < k
        · obtain ⟨x, hx⟩ : ∃ x, f[j]? = some x := ⟨_, List.getElem?_eq_getElem (by rw [hkH.out]; exact hjl)⟩
          obtain ⟨h1, rfl, x1, x2⟩ := huH.out j x hx
          obtain ⟨h2, rfl, y1, y2⟩ := huH'.out j x hx
          have x1' : (w.drewN m').cell? ⟨h1, j * 2, none⟩ = _ := x1
          have x2' : (w.drewN m').cell? ⟨h1, j * 2 + 1, none⟩ = _ := x2
          have y1' : (w.drewN m').cell? ⟨h2, j * 2, none⟩ = _ := y1
          have y2' : (w.drewN m').cell? ⟨h2, j * 2 + 1, none⟩ = _ := y2
          have hjl' : (j : Int) < (k : Int) := by omega
          obtain ⟨wq2, hwq⟩ : ∃ wq2, w.drewN m' = wq2 := ⟨_, rfl⟩
          have hwqH := Lib.hid hwq
          rw [hwq] at e1 e2 x1' x2' y1' y2' ⊢
          clear hwq x1 x2 y1 y2
          go_upto_region 11 with fail
          go_quiet (fail)
          go_wp2_with fail
          go_roundw
          case rel => exact ⟨j + 1, by omega, by go_num, by rw [← hwqH.out]; exact ⟨_, drew_add _ _ _⟩⟩
          case measure => simp [intOf]; omega
        · have hjl' : ¬ (j : Int) < (k : Int) := by omega
          go_wp2_with fail
          go_roundw
          case rel => exact ⟨i + 1, by omega, by go_num, _, rfl⟩
          case measure => simp [intOf]; omega
    · have hil' : ¬ (i : Int) < (n : Int) := by omega
      go_wp2_with fail
      go_ret
      exact ⟨rfl, _, rfl⟩
end Go.Proofs.Ytlaidmjlgjpgcaa
