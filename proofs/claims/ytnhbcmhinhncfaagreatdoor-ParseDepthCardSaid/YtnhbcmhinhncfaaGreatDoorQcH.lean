/- Commands within one another, reckoned to the depth 60: the ways 3. No condition. -/
import Derived.Test.YtnhbcmhinhncfaaGreatDoorQcA
import Derived.KernelRfl
namespace Go.Proofs.YtnhbcmhinhncfaaGreatDoor
open Go.RowKit Go.PlainAid
set_option maxRecDepth 100000 in
theorem okQ_3 (s : ByteArray) : (List.range 61).all (fun n => okQ s 3 n) = true := by kernel_rfl
end Go.Proofs.YtnhbcmhinhncfaaGreatDoor
