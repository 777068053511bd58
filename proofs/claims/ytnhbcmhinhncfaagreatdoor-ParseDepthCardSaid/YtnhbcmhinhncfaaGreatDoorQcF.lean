/- Commands within one another, reckoned to the depth 60: the ways 0 1 4. No condition. -/
import Derived.Test.YtnhbcmhinhncfaaGreatDoorQcA
import Derived.KernelRfl
namespace Go.Proofs.YtnhbcmhinhncfaaGreatDoor
open Go.RowKit Go.PlainAid
set_option maxRecDepth 100000 in
theorem okQ_0 (s : ByteArray) : (List.range 61).all (fun n => okQ s 0 n) = true := by kernel_rfl
set_option maxRecDepth 100000 in
theorem okQ_1 (s : ByteArray) : (List.range 61).all (fun n => okQ s 1 n) = true := by kernel_rfl
set_option maxRecDepth 100000 in
theorem okQ_4 (s : ByteArray) : (List.range 61).all (fun n => okQ s 4 n) = true := by kernel_rfl
end Go.Proofs.YtnhbcmhinhncfaaGreatDoor
