/- SplitPieces, plainly: pieces cut in two give the same fields. No condition. -/
import Derived.Test.YtlaidmjlgjpgcaaSplN
namespace Go.Proofs.Ytlaidmjlgjpgcaa
open Go.RowKit

/-- The fields hang on the fold alone. -/
theorem fields_of_fold {l r : List Pt} (h : fold mk0 l = fold mk0 r) : fieldsOf l = fieldsOf r := by
  rcases fieldsOf_eq l with ⟨h1, h2⟩ | ⟨h1, h2⟩ <;> rcases fieldsOf_eq r with ⟨h3, h4⟩ | ⟨h3, h4⟩
  · rw [h1, h3, h]
  · rw [h] at h2; exact absurd h4 h2
  · rw [h] at h2; exact absurd h2 h4
  · rw [h1, h3]

/-- A piece cut behind its first n bytes. -/
def cutAt (p : Pc) (n : Nat) : List Pc := [⟨p.t.extract 0 n, p.q, p.sp⟩, ⟨p.t.extract n p.t.size, p.q, p.sp⟩]
theorem cut_bytes (p : Pc) (n : Nat) : (p.t.extract 0 n).data.toList ++ (p.t.extract n p.t.size).data.toList = p.t.data.toList := by
  rw [Lib.extract_data, Lib.extract_data, List.drop_zero, Nat.sub_zero]
  have h : (p.t.data.toList.drop n).take (p.t.size - n) = p.t.data.toList.drop n := List.take_of_length_le (by
    rw [List.length_drop, Array.length_toList]
    have e : p.t.size = p.t.data.size := rfl
    omega)
  rw [h, List.take_append_drop]
theorem quoted_its (ifs : ByteArray) (p : Pc) (hq : p.q = true) (l : List UInt8) : ∀ m : Mk, m.b = true → (fold m ((l.map (mkP ifs p)).map ptOf)).b = true := by
  induction l with
  | nil => exact fun m h => h
  | cons c l ih =>
    intro m h
    have e : mkP ifs p c = .it c p.q := by unfold mkP; rw [hq]; simp
    rw [List.map_cons, List.map_cons, e]
    exact ih _ rfl
theorem mkP_same (ifs : ByteArray) (p : Pc) (t : ByteArray) (c : UInt8) : mkP ifs ⟨t, p.q, p.sp⟩ c = mkP ifs p c := rfl
theorem cut_fold (ifs : ByteArray) (p : Pc) (n : Nat) (m : Mk) : fold m ((partsOf ifs (cutAt p n)).map ptOf) = fold m ((partsP ifs p).map ptOf) := by
  have e : (partsOf ifs (cutAt p n)).map ptOf = (headP p).map ptOf ++ ((((p.t.extract 0 n).data.toList.map (mkP ifs p)).map ptOf) ++ ((headP p).map ptOf ++ ((p.t.extract n p.t.size).data.toList.map (mkP ifs p)).map ptOf)) := by
    unfold partsOf cutAt partsP bytesP
    rw [List.flatMap_cons, List.flatMap_cons, List.flatMap_nil, List.append_nil, List.map_append, List.map_append, List.map_append, List.append_assoc]
    rfl
  have e2 : (partsP ifs p).map ptOf = (headP p).map ptOf ++ ((((p.t.extract 0 n).data.toList.map (mkP ifs p)).map ptOf) ++ ((p.t.extract n p.t.size).data.toList.map (mkP ifs p)).map ptOf) := by
    unfold partsP bytesP
    rw [← cut_bytes p n, List.map_append, List.map_append, List.map_append]
  rw [e, e2, fold_append, fold_append, fold_append, fold_append, fold_append]
  congr 1
  cases hq : p.q
  · unfold headP; rw [hq]; rfl
  · have h1 : (headP p).map ptOf = [Pt.st] := by unfold headP; rw [hq]; rfl
    rw [h1]
    have h2 := quoted_its ifs p hq (p.t.extract 0 n).data.toList (fold m [Pt.st]) rfl
    have h3 : ∀ M : Mk, M.b = true → fold M [Pt.st] = M := fun M h => by
      show Mk.step M .st = M
      cases M with
      | mk a b c d => simp only at h; rw [h]; rfl
    exact h3 _ h2
theorem cuts_fields (ifs : ByteArray) (ps : List Pc) (k : Pc → Nat) : fieldsOf ((partsOf ifs (ps.flatMap fun p => cutAt p (k p))).map ptOf) = fieldsOf ((partsOf ifs ps).map ptOf) := by
  refine fields_of_fold ?_
  generalize mk0 = m
  induction ps generalizing m with
  | nil => rfl
  | cons p ps ih =>
    have e1 : (partsOf ifs ((p :: ps).flatMap fun p => cutAt p (k p))).map ptOf = (partsOf ifs (cutAt p (k p))).map ptOf ++ (partsOf ifs (ps.flatMap fun p => cutAt p (k p))).map ptOf := by
      unfold partsOf; rw [List.flatMap_cons, List.flatMap_append, List.map_append]
    have e2 : (partsOf ifs (p :: ps)).map ptOf = (partsP ifs p).map ptOf ++ (partsOf ifs ps).map ptOf := by
      unfold partsOf; rw [List.flatMap_cons, List.map_append]
    rw [e1, e2, fold_append, fold_append, cut_fold, ih]
end Go.Proofs.Ytlaidmjlgjpgcaa
