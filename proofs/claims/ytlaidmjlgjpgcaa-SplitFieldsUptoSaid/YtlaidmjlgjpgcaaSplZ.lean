/- What a bound on the bulk of a list of pieces says. No condition. -/
import Derived.Test.YtlaidmjlgjpgcaaSplN
import Derived.Test.YtlaidmjlgjpgcaaSplP
import Derived.Test.YtlaidmjlgjpgcaaRows
namespace Go.Proofs.Ytlaidmjlgjpgcaa
open Go.RowKit

theorem bulk_pieces {H : Type} (ps : List Pc) : Rows.uptoBulkAll (ps.map (pcData : Pc → DataW H)) = (bytesCat ps).length + ps.length * 4 := by
  induction ps with
  | nil => simp [Rows.uptoBulkAll, bytesCat]
  | cons p ps ih =>
    have e : bytesCat (p :: ps) = p.t.data.toList ++ bytesCat ps := by unfold bytesCat; rw [List.flatMap_cons]
    rw [List.map_cons, Rows.uptoBulkAll, ih, e, List.length_append, List.length_cons]
    have h : Rows.uptoBulk (pcData p : DataW H) = p.t.data.toList.length + 4 := by
      unfold pcData
      simp [Rows.uptoBulk, Rows.uptoBulkAll]
    rw [h]
    omega
theorem upto_pieces {H : Type} {ps : List Pc} {d : DataW H} {r : List (DataW H)} (h : Rows.uptoSmall H (d :: r) = true) (hd : ps = [] ∨ ∃ sp, d = .slice (ps.map pcData) sp) : (bytesCat ps).length + ps.length * 4 ≤ 1048576 := by
  rcases hd with rfl | ⟨sp, rfl⟩
  · simp [bytesCat]
  · have h1 : Rows.uptoBulkAll ((.slice (ps.map pcData) sp : DataW H) :: r) ≤ 1048576 := of_decide_eq_true h
    rw [Rows.uptoBulkAll, Rows.uptoBulk, bulk_pieces] at h1
    omega
end Go.Proofs.Ytlaidmjlgjpgcaa
