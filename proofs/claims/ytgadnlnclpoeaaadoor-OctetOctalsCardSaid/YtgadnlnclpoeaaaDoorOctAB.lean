/- Numbers of base 8, written and read: the program's and the document's. Condition: the library's table of de Bruijn lies as it was laid (Bit8). -/
import Derived.Test.YtgadnlnclpoeaaaDoorOctAA
namespace Go.Proofs.YtgadnlnclpoeaaaDoor
open Go.RowKit Go.PlainAid

set_option maxHeartbeats 1000000 in
theorem fmt8_36 (u : Nat) (hu : u < 9223372036854775808) (w : World) (h : Bit8 w) :
    Calls Tryd.prog 36 #[.int .i64 u, .int .i64 8] w fun e w' => e = .returned (.string ⟨(oct u).toArray⟩) ∧ Below w.heap.size w w' := by
  have hc := Lib.hid (bits8_any u hu w h)
  have hu2 : (u : Int) ≤ 9223372036854775807 := by omega
  clear h
  go_enter Tryd.func36, Tryd.ntmps36
  go_wp2_with fail
  refine hc.out.mono ?_
  rintro e w1 ⟨rfl, hB⟩
  have hBH := Lib.hid hB
  clear hB
  go_wp2
  go_ret
  exact ⟨rfl, hBH.out⟩

set_option maxHeartbeats 1000000 in
theorem fmt8 (u : Nat) (hu : u < 9223372036854775808) (w : World) (h : Bit8 w) :
    Calls Tryd.prog 26 #[.int .i64 u, .int .i64 8] w fun e w' => e = .returned (.string ⟨(oct u).toArray⟩) ∧ Below w.heap.size w w' := by
  have hc := Lib.hid (fmt8_36 u hu w h)
  clear h
  go_enter Tryd.func26, Tryd.ntmps26
  go_wp2_with fail
  refine hc.out.mono ?_
  rintro e w1 ⟨rfl, hB⟩
  have hBH := Lib.hid hB
  clear hB
  go_wp2
  go_ret
  exact ⟨rfl, hBH.out⟩

/-- What is written of a number. -/
def octT (n : Int) : ByteArray := if n < 0 then ⟨#[]⟩ else ⟨(oct n.toNat).toArray⟩

set_option maxHeartbeats 1000000 in
theorem octal_any (n : Int) (h1 : n ≤ 9223372036854775807) (w : World) (h : Bit8 w) :
    Calls Tryd.prog 15 #[.int .i64 n] w fun e w' => e = .returned (.string (octT n)) ∧ Below w.heap.size w w' := by
  unfold octT
  by_cases h0 : n < 0
  · rw [if_pos h0]
    go_enter Tryd.func15, Tryd.ntmps15
    go_wp2
    go_ret
    exact ⟨rfl, Below.refl _ _⟩
  · obtain ⟨u, rfl⟩ := Int.eq_ofNat_of_zero_le (show 0 ≤ n by omega)
    have hc := Lib.hid (fmt8 u (by omega) w h)
    clear h
    rw [if_neg h0]
    go_enter Tryd.func15, Tryd.ntmps15
    go_wp2_with fail
    refine hc.out.mono ?_
    rintro e w1 ⟨rfl, hB⟩
    have hBH := Lib.hid hB
    clear hB
    go_wp2
    go_ret
    exact ⟨rfl, hBH.out⟩
end Go.Proofs.YtgadnlnclpoeaaaDoor
