/- The reader in memory; what it holds as a literal, closed. No condition. -/
import Derived.Test.YtgpkhpheomaiaaaScE
import Derived.Laws.IdiomStrings
namespace Go.Proofs.Ytgpkhpheomaiaaa
open Go.RowKit Go.PlainAid
attribute [local go_sem] Oper.semAt_some

/-- A reader's block: the text, the kind, the depth, its parts' header, its bytes' header, is the literal quoted, is it open. -/
abbrev rd (t : ByteArray) (k d : Int) (a0 : Option Addr) (n0 c0 : Nat) (a1 : Option Addr) (n1 c1 : Nat) (q o : Bool) : Array Value :=
  #[.string t, .int .i64 k, .int .i64 d, .slice a0 n0 c0, .slice a1 n1 c1, .bool q, .bool o]

theorem Fr.refl (b : Nat) (v : Option Nat) (w : World) : Fr b v w w := ⟨rfl, rfl, rfl, Nat.le_refl _, fun _ _ _ _ => rfl⟩

section
variable {w : World} {b : Nat} {t : ByteArray} {k d : Int} {a0 a1 : Option Addr} {n0 c0 n1 c1 : Nat} {q o : Bool}

set_option maxHeartbeats 1000000 in
theorem quoted_any (h : Blk w b 59 (rd t k d a0 n0 c0 a1 n1 c1 q o)) : Calls Try.prog 36 #[.pointer (some ⟨b, 0, none⟩)] w fun e w' => e = .returned (.bool (k != 0)) ∧ w' = w := by
  have e1 : w.cell? ⟨b, 1, none⟩ = some (.int .i64 k) := h.cell 1
  cases hk : (k == 0)
  all_goals
    have hk' : (k != 0) = !(k == 0) := rfl
    rw [hk] at hk'
    go_enter Try.func36, Try.ntmps36
    go_wp2
    go_ret
    exact ⟨ret_bool (by first | rfl | exact hk'.symm), rfl⟩

set_option maxHeartbeats 1000000 in
theorem shut_any (h : Blk w b 59 (rd t k d a0 n0 c0 a1 n1 c1 q false)) : Calls Try.prog 27 #[.pointer (some ⟨b, 0, none⟩)] w fun e w' => e = .returned (.tuple #[]) ∧ Blk w' b 59 (rd t k d a0 n0 c0 a1 0 c1 false false) ∧ Fr b none w w' := by
  have e4 : w.cell? ⟨b, 4, none⟩ = some (.slice a1 n1 c1) := h.cell 4
  have e5 : w.cell? ⟨b, 5, none⟩ = some (.bool q) := h.cell 5
  have e6 : w.cell? ⟨b, 6, none⟩ = some (.bool false) := h.cell 6
  have f4 := h.frozen 4
  have f5 := h.frozen 5
  have f6 := h.frozen 6
  go_enter Try.func27, Try.ntmps27
  go_wp2
  go_end0
  exact ⟨rfl, ((h.set_ 4 _).set_ 5 _).set_ 6 _, (((Fr.refl b none w).set_ _).set_ _).set_ _⟩
end
end Go.Proofs.Ytgpkhpheomaiaaa
