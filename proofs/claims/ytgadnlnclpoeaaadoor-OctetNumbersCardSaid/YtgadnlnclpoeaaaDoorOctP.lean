/- The walk of the law OctetNumbers: true at every input. Condition: the library's tables and sentinels lie as they were laid (Gl). -/
import Derived.Test.YtgadnlnclpoeaaaDoorOctO
import Derived.Test.YtgadnlnclpoeaaaDoorOctL
import Derived.Test.YtgadnlnclpoeaaaDoorOctI
namespace Go.Proofs.YtgadnlnclpoeaaaDoor
open Go.RowKit Go.PlainAid

set_option maxRecDepth 100000 in
set_option maxHeartbeats 1000000 in
theorem octetNumbers_w (n : Int) (s : ByteArray) (w : World) (wn : (Lit.int .i64 n).wf = true) (z : s.data.toList.length ≤ reachBytes) (hg : Gl w) :
    Calls Tryd.prog 3 #[.int .i64 n, .string s] w fun e w' => e = .returned (.bool true) ∧ Below w.heap.size w w' := by
  obtain ⟨h0, h1⟩ := i64_of wn
  have hz : s.size ≤ 140737488351232 := by rw [Lib.size_eq]; exact z
  have hg' := Lib.hid hg
  have h4 := hg.size
  obtain ⟨X, hX⟩ : ∃ X : ByteArray, (⟨(Lib.itoa n).toArray⟩ : ByteArray) = X := ⟨_, rfl⟩
  have hXs : X.size ≤ 100000 := by
    rw [← hX]
    have := Lib.itoa_length_le n h0 h1
    show (Lib.itoa n).toArray.size ≤ 100000
    simp; omega
  have hXd : X.data.toList = Lib.itoa n := by rw [← hX]
  have c1 : Hid (∀ w, Gl w → Calls Tryd.prog 11 #[.int .i64 n] w fun e w' => e = .returned (.string X) ∧ Below w.heap.size w w') := Lib.hid (fun w g => by rw [← hX]; exact decimal_any n h0 h1 w g)
  have c2 : Hid (∀ w, Gl w → Calls Tryd.prog 12 #[.string X] w fun e w' => e = .returned (.tuple #[.int .i64 n, .bool true]) ∧ Below w.heap.size w w') := Lib.hid (fun w g => num_call hXs (by rw [hXd]; exact num_itoa n h0 h1) w g)
  have c5 : Hid (∀ w, Calls Tryd.prog 14 #[.int .i64 n] w fun e w' => e = .returned (.string X) ∧ Below w.heap.size w w') := Lib.hid (fun w => by rw [← hX]; exact refDecimal_any n h0 h1 w)
  obtain ⟨V, hV⟩ : ∃ V, numV s.data.toList = V := ⟨_, rfl⟩
  obtain ⟨O, hO⟩ : ∃ O, numOk s.data.toList = O := ⟨_, rfl⟩
  have c3 : Hid (∀ w, Gl w → Calls Tryd.prog 12 #[.string s] w fun e w' => e = .returned (.tuple #[.int .i64 V, .bool O]) ∧ Below w.heap.size w w') := Lib.hid (fun w g => by rw [← hV, ← hO]; exact number_any s (by omega) w g)
  have c4 : Hid (∀ w, Calls Tryd.prog 13 #[.string s] w fun e w' => e = .returned (.tuple #[.int .i64 V, .bool O]) ∧ w = w') := Lib.hid (fun w => by rw [← hV, ← hO]; exact refNumber_any s w (by omega))
  clear hX hV hO hXd hg z wn
  go_enter Tryd.func3, Tryd.ntmps3
  go_wp2_with fail
  refine (awake_any _ hg'.out).mono ?_
  rintro e w1 ⟨rfl, hb⟩
  have B1 := Lib.hid hb
  clear hb
  go_wp2_with fail
  refine (c1.out _ (hg'.out.below B1.out h4)).mono ?_
  rintro e w2 ⟨rfl, hb⟩
  have B2 := Lib.hid (B1.out.trans (hb.mono B1.out.size))
  clear hb
  go_wp2_with fail
  refine (c2.out _ (hg'.out.below B2.out h4)).mono ?_
  rintro e w3 ⟨rfl, hb⟩
  have B3 := Lib.hid (B2.out.trans (hb.mono B2.out.size))
  clear hb
  go_wp2_with fail
  refine (c3.out _ (hg'.out.below B3.out h4)).mono ?_
  rintro e w4 ⟨rfl, hb⟩
  have B4 := Lib.hid (B3.out.trans (hb.mono B3.out.size))
  clear hb
  go_wp2_with fail
  refine (c4.out _).mono ?_
  rintro e w5 ⟨rfl, rfl⟩
  go_wp2_with fail
  refine (c5.out _).mono ?_
  rintro e w5 ⟨rfl, hb⟩
  have B5 := Lib.hid (B4.out.trans (hb.mono B4.out.size))
  clear hb
  go_wp2
  go_ret
  exact ⟨rfl, B5.out⟩
end Go.Proofs.YtgadnlnclpoeaaaDoor
