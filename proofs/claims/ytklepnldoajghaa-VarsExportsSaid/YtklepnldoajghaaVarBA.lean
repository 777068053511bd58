/- A set of names that the law keeps as a map of bools: its laws as equations on runs. No condition. -/
import Derived.Test.YtklepnldoajghaaVarAB
import Derived.Maps.OwnSet
import Derived.StringKeys
namespace Go.Proofs.Ytklepnldoajghaa
open Go.RowKit

abbrev kl (x : ByteArray) : Lit := .string x.data.toList
theorem kl_inj {x y : ByteArray} (h : x ≠ y) : kl x ≠ kl y := fun e => h (by
  have h' : x.data.toList = y.data.toList := by simpa [kl] using e
  exact toList_inj (by rw [Lib.toList_data, Lib.toList_data]; exact h'))
theorem keyed : Maps.Keyed Try.prog 9 := Maps.string_keyed Try.underlying9
theorem zero4 (w : World) : (zeroValue 4).run Try.prog w = .ok (.bool false) w := by rw [Try.zeroValue4]

/-- The map in block b has true at just the names S; they are c. -/
def MapIs (w : World) (b n : Nat) (S : ByteArray → Bool) (c : Nat) : Prop :=
  ∃ D : DataW Unit, w.ownsMap Try.prog 9 (plainElem Try.prog 4) b n D ∧ (∀ x, D.atKey (kl x) (.lit (.bool false)) = .lit (.bool (S x))) ∧ (∀ x, Maps.has D (kl x) = S x) ∧ Maps.size D = c
theorem MapIs.made (w : World) : MapIs (w.alloc (.map #[] 0)) w.heap.size 0 (fun _ => false) 0 := ⟨.map [], World.ownsMap_made _ _ _ _, fun _ => rfl, fun _ => rfl, rfl⟩
theorem MapIs.congr {w : World} {b n c : Nat} {S S' : ByteArray → Bool} (h : MapIs w b n S c) (e : ∀ x, S' x = S x) : MapIs w b n S' c := by
  obtain rfl : S' = S := funext e
  exact h
theorem MapIs.lt {w : World} {b n c : Nat} {S : ByteArray → Bool} (h : MapIs w b n S c) : b < w.heap.size := by
  obtain ⟨D, h1, _⟩ := h
  exact h1.lt
theorem MapIs.heap {w w' : World} {b n c : Nat} {S : ByteArray → Bool} (h : MapIs w b n S c) (e : w'.heap[b]? = w.heap[b]?) : MapIs w' b n S c := by
  obtain ⟨D, ⟨es, clock, hb, r⟩, h2⟩ := h
  exact ⟨D, ⟨es, clock, e.trans hb, r⟩, h2⟩
theorem MapIs.not_cells {w : World} {b n c : Nat} {S : ByteArray → Bool} (h : MapIs w b n S c) {cs : Array Value} {t : TypeId} {f : Nat × Nat} : w.heap[b]? ≠ some (.cells cs t f) := fun e => by
  obtain ⟨D, ⟨es, clock, hb, _⟩, _⟩ := h
  rw [hb] at e
  cases e

theorem MapIs.look {w : World} {b n c : Nat} {S : ByteArray → Bool} (h : MapIs w b n S c) (x : ByteArray) (hx : x.size ≤ maxLen) : (Instr.lookup 59 (.map (some b)) (.string x) false).run Try.prog w = .ok (.bool (S x)) w := by
  obtain ⟨D, h1, h2, _⟩ := h
  obtain ⟨v, ps, hrun, hv⟩ := h1.lookup keyed Try.underlying59 (zero4 w) (zd := .lit (.bool false)) (zp := []) (plainElem_bool Try.underlying4 false) (WideMaps.keyOf_string_mk Try.underlying9 hx)
  rw [h2 x] at hv
  cases v
  case bool y =>
    rw [plainElem_bool Try.underlying4] at hv
    obtain ⟨rfl, _⟩ : y = S x ∧ ps = [] := by simpa using hv
    exact hrun
  all_goals simp [plainElem, Try.underlying4] at hv

theorem MapIs.len {w : World} {b n c : Nat} {S : ByteArray → Bool} (h : MapIs w b n S c) (ty : TypeId) : (Builtin.len_ #[59] ty #[.map (some b)]).run Try.prog w = .ok (.int .i64 c) w := by
  obtain ⟨D, h1, _, _, h4⟩ := h
  rw [← h4]
  exact h1.len Try.underlying59 ty

theorem MapIs.put {w : World} {b n c : Nat} {S : ByteArray → Bool} (h : MapIs w b n S c) (x : ByteArray) (hx : x.size ≤ maxLen) (hn : n < maxLen) :
    ∃ w', (Instr.mapUpdate 59 (.map (some b)) (.string x) (.bool true)).run Try.prog w = .ok () w' ∧ MapIs w' b (n + 1) (fun y => decide (y = x) || S y) (if S x then c else c + 1) ∧ w.grownBy w' (some b) := by
  obtain ⟨D, h1, h2, h3, h4⟩ := h
  obtain ⟨w', hrun, hown, hturn⟩ := h1.store keyed Try.underlying59 hn (WideMaps.keyOf_string_mk Try.underlying9 hx) (plainElem_bool (H := Unit) Try.underlying4 true)
  have hm := h1.isMap
  have ht := h1.tidy keyed
  refine ⟨w', hrun, ⟨_, hown, fun y => ?_, fun y => ?_, ?_⟩, hturn.grown⟩
  · by_cases e : y = x
    · subst e
      rw [Maps.atKey_put_same hm (show WideAt.IsKeyLit (kl y) from trivial)]
      simp
    · rw [Maps.atKey_put_other (kl_inj e), h2 y]
      simp [e]
  · by_cases e : y = x
    · subst e
      rw [Maps.has_put_same hm (show WideAt.IsKeyLit (kl y) from trivial)]
      simp
    · rw [Maps.has_put_other (kl_inj e), h3 y]
      simp [e]
  · rw [Maps.size_put ht, h3 x, h4]

theorem MapIs.del {w : World} {b n c : Nat} {S : ByteArray → Bool} (h : MapIs w b n S c) (x : ByteArray) (hx : x.size ≤ maxLen) (ty : TypeId) :
    ∃ w' c', (Builtin.delete_ #[59, 9] ty #[.map (some b), .string x]).run Try.prog w = .ok (.tuple #[]) w' ∧ MapIs w' b n (fun y => !decide (y = x) && S y) c' ∧ c' + (if S x then 1 else 0) = c ∧ w.grownBy w' (some b) := by
  obtain ⟨D, h1, h2, h3, h4⟩ := h
  obtain ⟨w', hrun, hown, hturn⟩ := h1.drop keyed Try.underlying59 (WideMaps.keyOf_string_mk Try.underlying9 hx) ty
  have ht := h1.tidy keyed
  refine ⟨w', _, hrun, ⟨_, hown, fun y => ?_, fun y => ?_, rfl⟩, ?_, hturn.grown⟩
  · by_cases e : y = x
    · subst e
      rw [Maps.atKey_del_same]
      simp
    · rw [Maps.atKey_del_other (kl_inj e), h2 y]
      simp [e]
  · by_cases e : y = x
    · subst e
      rw [Maps.has_del_same]
      simp
    · rw [Maps.has_del_other (kl_inj e), h3 y]
      simp [e]
  · rw [← h3 x, ← h4]
    exact Maps.size_del ht
end Go.Proofs.Ytklepnldoajghaa
