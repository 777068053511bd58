/- The document's code of a tree: text. No condition; the text is not too long. -/
import Derived.Test.YtnhbcmhinhncfaaGreatDoorPdE
namespace Go.Proofs.YtnhbcmhinhncfaaGreatDoor
open Go.RowKit Go.PlainAid
set_option linter.unusedVariables false
set_option linter.unusedSimpArgs false
attribute [local go_sem] Oper.semAt_some
def decB (a : Int) : ByteArray := ⟨(Lib.itoa a).toArray⟩
theorem decB_data (a : Int) : (decB a).data.toList = Lib.itoa a := rfl
theorem decB_size (a : Int) (h0 : -9223372036854775808 ≤ a) (h1 : a ≤ 9223372036854775807) : (decB a).size ≤ 21 := by
  show (Lib.itoa a).toArray.size ≤ 21
  rw [List.size_toArray]
  have := Lib.itoa_length_le a (by omega) (by omega)
  omega
def textL (t : ByteArray) : List UInt8 := Lib.itoa (t.size : Int) ++ 58 :: t.data.toList
def textB (t : ByteArray) : ByteArray := decB (t.size : Int) ++ ⟨#[58]⟩ ++ t
theorem textB_data (t : ByteArray) : (textB t).data.toList = textL t := by
  unfold textB textL
  rw [app_dataD, app_dataD, decB_data]
  simp
theorem textB_size (t : ByteArray) : (textB t).size = (textL t).length := by rw [← textB_data]; exact Lib.size_eq _
theorem textL_le (t : ByteArray) : t.size ≤ (textL t).length := by
  unfold textL
  rw [List.length_append, List.length_cons, ← Lib.size_eq]
  omega
set_option maxRecDepth 100000 in
set_option maxHeartbeats 1000000 in
theorem text_any (t : ByteArray) (ht : t.size ≤ 2000000000) (w : World) : Calls Tryz.prog 15 #[.string t] w fun e w' => e = .returned (.string (textB t)) ∧ Below w.heap.size w w' := by
  have hd := Lib.hid (fun W => refDecimal_any (t.size : Int) (by omega) (by omega) W)
  have hz := decB_size (t.size : Int) (by omega) (by omega)
  have hx : Hid ((⟨(Lib.itoa (t.size : Int)).toArray⟩ : ByteArray) = decB (t.size : Int)) := Lib.hid rfl
  have htb : Hid (textB t = decB (t.size : Int) ++ ⟨#[58]⟩ ++ t) := Lib.hid rfl
  obtain ⟨D, hD⟩ : ∃ D, decB (t.size : Int) = D := ⟨_, rfl⟩
  rw [hD] at hz hx htb
  have hadd1 : ∀ w : World, (Op.stringOp .add D ⟨#[58]⟩).run Tryz.prog w = .ok (.string (D ++ ⟨#[58]⟩)) w := fun w => run_string_add_sum w _ _ (by show D.size + 1 ≤ _; omega)
  have hs1 : (D ++ (⟨#[58]⟩ : ByteArray)).size = D.size + 1 := by rw [ByteArray.size_append]; rfl
  have hadd2 : ∀ w : World, (Op.stringOp .add (D ++ ⟨#[58]⟩) t).run Tryz.prog w = .ok (.string (D ++ ⟨#[58]⟩ ++ t)) w := fun w => run_string_add_sum w _ _ (by rw [hs1]; omega)
  clear hD
  go_enter Tryz.func15, Tryz.ntmps15
  go_wp2_with (go_at_call 14; refine (hd.out _).mono ?_; rintro e w2 ⟨rfl, hb⟩; have hbH := Lib.hid hb; clear hb; rw [hx.out])
  go_ret
  exact ⟨by rw [htb.out]; rfl, hbH.out⟩
end Go.Proofs.YtnhbcmhinhncfaaGreatDoor
