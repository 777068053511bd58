/- The reference's put, Set and Mark, whole. Condition: the rows lie as stated. -/
import Derived.Test.YtklepnldoajghaaVarCQ
import Derived.Test.YtklepnldoajghaaVarCO
namespace Go.Proofs.Ytklepnldoajghaa
open Go.RowKit

theorem putR_ok : PutOk := by
  intro n₀ q L A lv av x y w h hn0 hroom
  cases hh : has (ks L) x with
  | true =>
    have e : setL L x y = L.set (pos (ks L) x) (x, y) := by unfold setL; rw [hh]; rfl
    have hs' : Sorted (ks (L.set (pos (ks L) x) (x, y))) := by
      have hk : ks (L.set (pos (ks L) x) (x, y)) = ks L := by
        unfold ks
        rw [List.map_set]
        have hat := has_at hh
        unfold ks at hat
        apply List.ext_getElem?
        intro t
        rw [List.getElem?_set]
        by_cases e1 : pos (List.map (fun x => x.1) L) x = t
        · rw [if_pos e1, if_pos (List.getElem?_eq_some_iff.1 hat).1, ← e1]
          exact hat.symm
        · rw [if_neg e1]
      rw [hk]
      exact h.srt
    rw [e]
    exact putR_there x y w h hn0 hh hs'
  | false =>
    have e : setL L x y = ins L (pos (ks L) x) (x, y) := by unfold setL; rw [hh]; rfl
    rw [e]
    have hr := hroom hh
    by_cases hlt : pos (ks L) x < L.length
    · exact putR_mid x y w h hn0 hh hr hlt
    · have heq : pos (ks L) x = L.length := by have := pos_le (ks L) x; rw [ks_len] at this; omega
      rcases h.list.2 with ⟨e1, _⟩ | ⟨g, cap, cur, e1, _⟩
      · exact putR_nil x y w h hn0 hh hr heq e1
      · by_cases hc : cap = L.length
        · exact putR_full x y w h hn0 hh hr heq ⟨g, by rw [e1, hc]⟩
        · exact putR_end x y w h hn0 hh hr heq ⟨g, cap, e1, hc⟩

theorem setR_any {n₀ q : Nat} {L : Vl} {A : List ByteArray} {lv av : Value} (x v : ByteArray) (w : World) (h : RefAt n₀ w q L A lv av) (hn0 : n₀ ≤ w.heap.size) (hx : x.size ≤ maxLen) (hv : v.size ≤ maxLen) :
    Calls Try.prog 11 #[.pointer (some ⟨q, 0, none⟩), .string x, .string v] w fun e w' => e = .returned (.int .i64 (setE L x v)) ∧ REnds n₀ q (setR L x v) A w w' := setR_call putR_ok x v w h hn0 hx hv
theorem markR_any {n₀ q : Nat} {L : Vl} {A : List ByteArray} {lv av : Value} (x : ByteArray) (ma mb : Bool) (w : World) (h : RefAt n₀ w q L A lv av) (hn0 : n₀ ≤ w.heap.size) (hx : x.size ≤ maxLen) :
    Calls Try.prog 15 #[.pointer (some ⟨q, 0, none⟩), .string x, .bool ma, .bool mb] w fun e w' => e = .returned (.int .i64 (markE L x ma mb)) ∧ REnds n₀ q (markR L x ma mb) A w w' := markR_call putR_ok x ma mb w h hn0 hx
end Go.Proofs.Ytklepnldoajghaa
