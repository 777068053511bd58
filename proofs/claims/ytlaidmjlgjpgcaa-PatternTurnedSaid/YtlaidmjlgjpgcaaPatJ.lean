/- Match. Condition: lengths. -/
import Derived.Test.YtlaidmjlgjpgcaaPatI
import Derived.Test.YtlaidmjlgjpgcaaPatG
namespace Go.Proofs.Ytlaidmjlgjpgcaa
open Go.RowKit
attribute [local go_sem] Oper.semAt_some

theorem elC_len (ys : List (Bool × (Nat → Nat))) : (elC ys).length = ys.length * 5 := by
  unfold elC; induction ys with
  | nil => rfl
  | cons y ys ih =>
    have e : (elV y.1 y.2).toList.length = 5 := rfl
    rw [List.flatMap_cons, List.length_append, ih, e, List.length_cons]; omega
theorem elC_get {ys : List (Bool × (Nat → Nat))} {j : Nat} {y : Bool × (Nat → Nat)} (h : ys[j]? = some y) : ∀ k, k < 5 → (elC ys)[j * 5 + k]? = (elV y.1 y.2)[k]? := by
  unfold elC
  induction ys generalizing j with
  | nil => simp at h
  | cons x ys ih =>
    intro k hk
    have e : (elV x.1 x.2).toList.length = 5 := rfl
    rw [List.flatMap_cons]
    cases j with
    | zero =>
      obtain rfl : x = y := by simpa using h
      rw [Nat.zero_mul, Nat.zero_add, List.getElem?_append_left (by rw [e]; exact hk), Array.getElem?_toList]
    | succ j =>
      rw [List.getElem?_append_right (by rw [e]; omega), e, show (j + 1) * 5 + k - 5 = j * 5 + k by omega]
      exact ih (by simpa using h) k hk
theorem ElsOwn.at_ {n₀ : Nat} {W : World} {v : Value} {l : List El} (h : ElsOwn n₀ W v l) : ∃ av cv, v = .slice av l.length cv ∧ ElsAt W.heap.size W av l := by
  obtain ⟨ys, h1, h2, h3⟩ := h
  have hc := @World.ownsRow.cells _ _ _ _ _ _ _ h3
  rcases h3.2 with ⟨rfl, h0⟩ | ⟨g, cap, cur, rfl, _, hb, _⟩
  · exact ⟨none, 0, by rw [h0], fun i e he => by have := (List.getElem?_eq_some_iff.1 he).1; omega⟩
  · refine ⟨_, _, rfl, fun i e he => ?_⟩
    have hil := (List.getElem?_eq_some_iff.1 he).1
    obtain ⟨y, hy⟩ : ∃ y, ys[i]? = some y := ⟨_, List.getElem?_eq_getElem (by omega)⟩
    obtain ⟨hst, hR⟩ := h2 i y e hy he
    refine ⟨g, 0, y.2, rfl, (Array.getElem?_eq_some_iff.1 hb).1, ?_, fun k hk => ?_, hR⟩
    · have := hc (g := g) rfl (i * 5 + 0) (.bool y.1) (by rw [elC_get hy 0 (by omega)]; rfl)
      rw [Lib.add_plain, hst] at this
      exact this
    · have := hc (g := g) rfl (i * 5 + (1 + k)) (.int .u64 (y.2 k : Nat)) (by rw [elC_get hy (1 + k) (by omega)]; exact elV_get _ _ _ hk)
      rw [Lib.add_plain] at this
      rw [show 0 + i * 5 + 1 + k = 0 + (i * 5 + (1 + k)) by omega]
      exact this
def MatchR (p : List Ch) (s : ByteArray) (w : World) (e : Ending) (w' : World) : Prop := Below w.heap.size w w' ∧ ∃ b, e = .returned (.bool b) ∧ (b = true ↔ Mat (els p 0) s.data.toList)
set_option maxHeartbeats 1000000 in
theorem match_any (av : Option Addr) (n cv : Nat) (p : List Ch) (s : ByteArray) (w : World) (hn : p.length = n) (hP : ChsAt w.heap.size w av p) (hn2 : n ≤ 1000000) (hs : s.size ≤ 1000000) :
    Calls Try.prog 15 #[.slice av n cv, .string s] w (MatchR p s w) := by
  have he := Lib.hid (elements_any av n cv p w hn hP hn2)
  have hlen := els_len p _ 0 (Nat.le_refl _)
  rw [hn] at hlen
  clear hn hP
  go_enter Try.func15, Try.ntmps15
  go_wp2_with fail
  refine he.out.mono ?_
  rintro e w1 ⟨hb1, v, rfl, hE⟩
  obtain ⟨a1, c1, rfl, hA⟩ := hE.at_
  have hm := Lib.hid (matches_any a1 _ c1 (els p 0) s w1 rfl hA (by omega) hs)
  have hb1H := Lib.hid hb1
  clear hb1 hE hA he
  go_wp2_with fail
  refine hm.out.mono ?_
  rintro e w2 ⟨b, rfl, hb, m, rfl⟩
  have hbH := Lib.hid hb
  clear hb hm
  go_wp2_with fail
  go_ret
  exact ⟨below_drewN hb1H.out _, b, rfl, hbH.out⟩
end Go.Proofs.Ytlaidmjlgjpgcaa
