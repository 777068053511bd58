/- What Fields made, opened; the first look's contract. No condition. -/
import Derived.Test.YtlaidmjlgjpgcaaSplH
import Derived.Test.YtlaidmjlgjpgcaaSplT
namespace Go.Proofs.Ytlaidmjlgjpgcaa
open Go.RowKit
attribute [local go_sem] Oper.semAt_some

theorem FlsAt.get {n₀ : Nat} {w : World} {v : Value} {L : List (List Ch)} (h : FlsAt n₀ w v L) : ∃ av cv, v = .slice av L.length cv ∧ L.length ≤ cv ∧
    ∀ j f, L[j]? = some f → ∃ g u, av = some ⟨g, 0, none⟩ ∧ g < w.heap.size ∧ n₀ ≤ g ∧ w.cell? ⟨g, j, none⟩ = some u ∧ w.ownsRow n₀ 33 2 u f.length (chv f) := by
  obtain ⟨sl, h1, h2, h3⟩ := h
  have hc := @World.ownsRow.cells _ _ _ _ _ _ _ h1
  rcases h1.2 with ⟨rfl, h0⟩ | ⟨g, cap, cur, rfl, hn, hb, hr⟩
  · exact ⟨none, 0, by rw [h0], by omega, fun j f hj => by have := (List.getElem?_eq_some_iff.1 hj).1; omega⟩
  · refine ⟨_, _, rfl, by omega, fun j f hj => ?_⟩
    have hjl := (List.getElem?_eq_some_iff.1 hj).1
    obtain ⟨u, hu⟩ : ∃ u, sl[j]? = some u := ⟨_, List.getElem?_eq_getElem (by omega)⟩
    refine ⟨g, u, rfl, (Array.getElem?_eq_some_iff.1 hb).1, hn, ?_, h3 j u f hu hj⟩
    have := hc (g := g) rfl j u hu
    rw [Lib.add_plain, Nat.zero_add] at this
    exact this

theorem fields_any (ifs : ByteArray) (av : Option Addr) (cv : Nat) (ps : List Pc) (hlen : ps.length ≤ 9223372036854775807) (w : World) (hP : PcsAt w.heap.size w av ps) :
    Calls Try.prog 27 #[.slice av ps.length cv, .string ifs] w (FieldsR w.heap.size (fieldsOf ((partsOf ifs ps).map ptOf)) w) :=
  callsIn_wide.1 (fields_in ifs av cv ps hlen w hP)

theorem own_lower {W : World} {a b : Nat} {e : TypeId} {size : Nat} {v : Value} {n : Nat} {xs : List Value} (h : W.ownsRow b e size v n xs) (hab : a ≤ b) : W.ownsRow a e size v n xs := by
  refine ⟨h.1, ?_⟩
  rcases h.2 with h0 | ⟨g, cap, cur, h1, h2, h3⟩
  · exact .inl h0
  · exact .inr ⟨g, cap, cur, h1, Nat.le_trans hab h2, h3⟩
/-- A list of one piece, just made. -/
theorem pcs_one (w : World) (p : Pc) (hp : p.t.size ≤ 9223372036854775807) : PcsAt (w.heap.size + 1) (w.alloc (.cells #[.string p.t, .bool p.q, .bool p.sp] 39)) (some ⟨w.heap.size, 0, none⟩) [p] := by
  intro i q hq
  cases i with
  | succ i => simp at hq
  | zero =>
    obtain rfl : p = q := by simpa using hq
    have hb := World.alloc_heap_new w (.cells #[.string p.t, .bool p.q, .bool p.sp] 39)
    exact ⟨_, _, rfl, by omega, by rw [cell_of_row _ _ _ _ _ _ hb]; rfl, by rw [cell_of_row _ _ _ _ _ _ hb]; rfl, by rw [cell_of_row _ _ _ _ _ _ hb]; rfl, hp⟩
theorem fields_one (ifs : ByteArray) (cv : Nat) (p : Pc) (w : World) (hp : p.t.size ≤ 9223372036854775807) :
    Calls Try.prog 27 #[.slice (some ⟨w.heap.size, 0, none⟩) 1 cv, .string ifs] (w.alloc (.cells #[.string p.t, .bool p.q, .bool p.sp] 39)) fun e w' =>
      FieldsR w.heap.size (fieldsOf ((partsOf ifs [p]).map ptOf)) w e w' := by
  refine (fields_any ifs _ cv [p] (by simp) _ (by rw [World.size_alloc]; exact pcs_one w p hp)).mono ?_
  rintro e w' ⟨hb, h⟩
  rw [World.size_alloc] at hb
  refine ⟨((Below.refl _ _).alloc (Nat.le_refl _) _).trans (hb.mono (by omega)), ?_⟩
  rcases h with ⟨L, v, h1, h2, sl, h3, h4, h5⟩ | h
  · rw [World.size_alloc] at h3 h5
    exact .inl ⟨L, v, h1, h2, sl, own_lower h3 (by omega), h4, fun j u f a b => own_lower (h5 j u f a b) (by omega)⟩
  · exact .inr h

theorem awake_fields : fieldsOf ((partsOf ⟨#[32]⟩ [⟨⟨#[97, 32, 98]⟩, false, true⟩]).map ptOf) = some [[(97, false)], [(98, false)]] := by decide +kernel

set_option maxHeartbeats 1000000 in
set_option maxRecDepth 100000 in
theorem awake_any (w : World) : Calls Try.prog 26 #[] w fun e w' => e = .returned (.bool true) ∧ Below w.heap.size w w' := by
  have hf := Lib.hid (fun cv => fields_one ⟨#[32]⟩ cv ⟨⟨#[97, 32, 98]⟩, false, true⟩ w (by decide))
  go_enter Try.func26, Try.ntmps26
  go_wp2_with fail
  refine (hf.out _).mono ?_
  rintro e w1 ⟨hb, h⟩
  rw [awake_fields] at h
  obtain ⟨L, v, hL, rfl, hv⟩ | ⟨hL, -⟩ := h
  · obtain rfl := Option.some.inj hL
    obtain ⟨av, cv, rfl, hcv, hget⟩ := hv.get
    obtain ⟨g, u, rfl, hg, hng, hc, hown⟩ := hget 1 [(98, false)] rfl
    have hownH := Lib.hid hown
    have hbH := Lib.hid hb
    clear hown hb hget hv hL hf
    simp only [List.length_cons, List.length_nil, Nat.zero_add, Nat.reduceAdd] at hownH hcv ⊢
    go_wp2_with fail
    refine (text_any u [(98, false)] w1 hownH.out (by decide)).mono ?_
    rintro e w2 ⟨rfl, hb2⟩
    have hb2H := Lib.hid hb2
    clear hb2
    go_wp2
    go_ret
    exact ⟨rfl, hbH.out.trans (hb2H.out.mono hbH.out.size)⟩
  · cases hL
end Go.Proofs.Ytlaidmjlgjpgcaa
