/- The operator that a text begins with. No condition. -/
import Derived.Test.YtgpkhpheomaiaaaRdE
namespace Go.Proofs.Ytgpkhpheomaiaaa
open Go.RowKit Go.PlainAid
attribute [local go_sem] Oper.semAt_some

def opsL : List (List UInt8) := [[58, 45], [58, 61], [58, 63], [58, 43], [45], [61], [63], [43], [37, 37], [37], [35, 35], [35]]
def isOp (x : ByteArray) : Bool := opsL.contains x.data.toList
def opFrom (s : ByteArray) : Nat → ByteArray
  | 0 => ⟨#[]⟩
  | n + 1 => if isOp (s.extract 0 (n + 1)) then s.extract 0 (n + 1) else opFrom s n
def opM (s : ByteArray) : ByteArray := opFrom s (min 2 s.size)

theorem is_op {x : ByteArray} {l : List UInt8} (h : opsL.contains l = true) (hx : (x.toList == l) = true) : isOp x = true := by
  unfold isOp; rw [← Lib.toList_data, eq_of_beq hx]; exact h
theorem op_yes {s x : ByteArray} {n : Nat} (hx : s.extract 0 (n + 1) = x) (h : isOp x = true) : opFrom s (n + 1) = x := by rw [opFrom, hx, h]; rfl
theorem op_no {s x : ByteArray} {n : Nat} (hx : s.extract 0 (n + 1) = x) (h : isOp x = false) : opFrom s (n + 1) = opFrom s n := by rw [opFrom, hx, h]; rfl

set_option maxHeartbeats 2000000 in
theorem operator_any (s : ByteArray) (w : World) (hs : s.size ≤ 100000) : Calls Try.prog 58 #[.string s] w fun e w' => e = .returned (.string (opM s)) ∧ w = w' := by
  obtain ⟨m, hm⟩ : ∃ m, min 2 s.size = m := ⟨_, rfl⟩
  have hms : m ≤ s.size := by omega
  go_enter Try.func58, Try.ntmps58
  go_wp2
  go_loop [3] (fun v => ∃ n : Nat, n ≤ m ∧ v = .int .i64 n ∧ Hid (opM s = opFrom s n)) (fun v => (intOf v).toNat)
  case atStart => exact ⟨m, Nat.le_refl _, by subst hm; exact congrArg (Value.int .i64) (by omega), Lib.hid (by unfold opM; rw [hm])⟩
  case round =>
    obtain ⟨n, hn, rfl, hop⟩ := hrel
    cases n with
    | zero =>
      go_wp2
      go_ret
      rw [hop.out]
      exact ⟨rfl, rfl⟩
    | succ n =>
      cases h0 : ((s.extract 0 (n + 1)).toList == [58, 45])
      rotate_left
      · go_wp2
        go_ret
        rw [hop.out, op_yes rfl (is_op (by decide) h0)]
        exact ⟨rfl, rfl⟩
      cases h1 : ((s.extract 0 (n + 1)).toList == [58, 61])
      rotate_left
      · go_wp2
        go_ret
        rw [hop.out, op_yes rfl (is_op (by decide) h1)]
        exact ⟨rfl, rfl⟩
      cases h2 : ((s.extract 0 (n + 1)).toList == [58, 63])
      rotate_left
      · go_wp2
        go_ret
        rw [hop.out, op_yes rfl (is_op (by decide) h2)]
        exact ⟨rfl, rfl⟩
      cases h3 : ((s.extract 0 (n + 1)).toList == [58, 43])
      rotate_left
      · go_wp2
        go_ret
        rw [hop.out, op_yes rfl (is_op (by decide) h3)]
        exact ⟨rfl, rfl⟩
      cases h4 : ((s.extract 0 (n + 1)).toList == [45])
      rotate_left
      · go_wp2
        go_ret
        rw [hop.out, op_yes rfl (is_op (by decide) h4)]
        exact ⟨rfl, rfl⟩
      cases h5 : ((s.extract 0 (n + 1)).toList == [61])
      rotate_left
      · go_wp2
        go_ret
        rw [hop.out, op_yes rfl (is_op (by decide) h5)]
        exact ⟨rfl, rfl⟩
      cases h6 : ((s.extract 0 (n + 1)).toList == [63])
      rotate_left
      · go_wp2
        go_ret
        rw [hop.out, op_yes rfl (is_op (by decide) h6)]
        exact ⟨rfl, rfl⟩
      cases h7 : ((s.extract 0 (n + 1)).toList == [43])
      rotate_left
      · go_wp2
        go_ret
        rw [hop.out, op_yes rfl (is_op (by decide) h7)]
        exact ⟨rfl, rfl⟩
      cases h8 : ((s.extract 0 (n + 1)).toList == [37, 37])
      rotate_left
      · go_wp2
        go_ret
        rw [hop.out, op_yes rfl (is_op (by decide) h8)]
        exact ⟨rfl, rfl⟩
      cases h9 : ((s.extract 0 (n + 1)).toList == [37])
      rotate_left
      · go_wp2
        go_ret
        rw [hop.out, op_yes rfl (is_op (by decide) h9)]
        exact ⟨rfl, rfl⟩
      cases h10 : ((s.extract 0 (n + 1)).toList == [35, 35])
      rotate_left
      · go_wp2
        go_ret
        rw [hop.out, op_yes rfl (is_op (by decide) h10)]
        exact ⟨rfl, rfl⟩
      cases h11 : ((s.extract 0 (n + 1)).toList == [35])
      rotate_left
      · go_wp2
        go_ret
        rw [hop.out, op_yes rfl (is_op (by decide) h11)]
        exact ⟨rfl, rfl⟩
      have hno : Hid (isOp (s.extract 0 (n + 1)) = false) := Lib.hid (by unfold isOp opsL; rw [← Lib.toList_data]; simp only [List.contains_cons, h0, h1, h2, h3, h4, h5, h6, h7, h8, h9, h10, h11]; rfl)
      go_wp2
      go_round
      case rel => exact ⟨n, by omega, rfl, Lib.hid (by rw [hop.out, op_no rfl hno.out])⟩
      case measure => simp [intOf]
end Go.Proofs.Ytgpkhpheomaiaaa
