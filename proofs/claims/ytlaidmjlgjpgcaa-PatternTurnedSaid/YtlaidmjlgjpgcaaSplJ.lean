/- SplitBack: plainly. No condition. -/
import Derived.Test.YtlaidmjlgjpgcaaSplI
namespace Go.Proofs.Ytlaidmjlgjpgcaa
open Go.RowKit

/-- A text as a field, none of it quoted. -/
def fld (t : List UInt8) : List Ch := t.map fun b => (b, false)
theorem txt_fld (t : List UInt8) : txt (fld t) = t := by unfold txt fld; rw [List.map_map]; exact List.map_id' _
theorem fld_len (t : List UInt8) : (fld t).length = t.length := by unfold fld; rw [List.length_map]

/-- The texts, the byte behind each. -/
def catOf (by' : UInt8) (ts : List ByteArray) : List UInt8 := ts.flatMap fun t => t.data.toList ++ [by']
theorem catOf_snoc (b : UInt8) (ts : List ByteArray) (t : ByteArray) : catOf b (ts ++ [t]) = catOf b ts ++ (t.data.toList ++ [b]) := by unfold catOf; simp
theorem catOf_len (b : UInt8) (ts : List ByteArray) (M : Nat) (h : ∀ t ∈ ts, t.size ≤ M) : (catOf b ts).length ≤ ts.length * (M + 1) := by
  induction ts with
  | nil => simp [catOf]
  | cons t ts ih =>
    have h1 := ih (fun u hu => h u (by simp [hu]))
    have h2 : t.data.toList.length ≤ M := by have := h t (by simp); rw [Array.length_toList]; exact this
    unfold catOf at h1 ⊢
    rw [List.flatMap_cons, List.length_append, List.length_append, List.length_cons, List.length_cons, List.length_nil, Nat.succ_mul]
    omega
theorem catOf_mem (b : UInt8) (ts : List ByteArray) (t : ByteArray) (h : t ∈ ts) : t.size ≤ (catOf b ts).length := by
  induction ts with
  | nil => simp at h
  | cons u ts ih =>
    have e : catOf b (u :: ts) = (u.data.toList ++ [b]) ++ catOf b ts := by unfold catOf; rw [List.flatMap_cons]
    rw [e, List.length_append, List.length_append, Array.length_toList]
    rcases List.mem_cons.1 h with rfl | h
    · show t.data.size ≤ _; omega
    · have := ih h; omega

theorem isSep_one (b c : UInt8) : isSep ⟨#[b]⟩ c = decide (c = b) := by
  unfold isSep
  apply decide_eq_decide.2
  show 0 ≤ Lib.indexByte [b] c ↔ c = b
  by_cases h : c = b
  · subst h
    simp [Lib.indexByte]
  · simp [Lib.indexByte, h, Ne.symm h]

theorem its_fold (l : List UInt8) : ∀ (fs : List (List Ch)) (f : List Ch) (bb s : Bool), fold ⟨fs, f, bb, s⟩ (l.map fun c => Pt.it (c, false)) = ⟨fs, f ++ fld l, bb || !l.isEmpty, s⟩ := by
  induction l with
  | nil => intro fs f bb s; simp [fold, fld]
  | cons c l ih =>
    intro fs f bb s
    have e : fold ⟨fs, f, bb, s⟩ ((c :: l).map fun c => Pt.it (c, false)) = fold ⟨fs, f ++ [(c, false)], true, s⟩ (l.map fun c => Pt.it (c, false)) := rfl
    rw [e, ih]
    simp [fld]
theorem fold_append (m : Mk) (l r : List Pt) : fold m (l ++ r) = fold (fold m l) r := by unfold fold; rw [List.foldl_append]

/-- What the bytes of an unquoted splittable piece are. -/
def pt1 (ifs : ByteArray) (c : UInt8) : Pt := bif isSep ifs c then (bif isBlank c then .sf else .hd) else .it (c, false)
theorem ptOf_mk (ifs : ByteArray) (t : ByteArray) (c : UInt8) : ptOf (mkP ifs ⟨t, false, true⟩ c) = pt1 ifs c := by
  unfold mkP pt1
  simp only [Bool.not_false, Bool.and_self, Bool.true_and]
  cases isSep ifs c
  · rfl
  · cases isBlank c <;> rfl
theorem parts_one (ifs t : ByteArray) : (partsOf ifs [⟨t, false, true⟩]).map ptOf = t.data.toList.map (pt1 ifs) := by
  unfold partsOf partsP headP bytesP
  rw [List.flatMap_cons, List.flatMap_nil, List.append_nil]
  simp only [cond_false, List.nil_append, List.map_map]
  exact List.map_congr_left (fun c _ => ptOf_mk ifs t c)

theorem back_fold (b : UInt8) (hbl : isBlank b = false) (ts : List ByteArray) : (∀ t ∈ ts, ∀ c ∈ t.data.toList, c ≠ b) → ∀ fs, fold ⟨fs, [], false, false⟩ ((catOf b ts).map (pt1 ⟨#[b]⟩)) = ⟨fs ++ ts.map (fun t => fld t.data.toList), [], false, false⟩ := by
  induction ts with
  | nil => intro _ fs; simp [catOf, fold]
  | cons t ts ih =>
    intro h fs
    have e : catOf b (t :: ts) = (t.data.toList ++ [b]) ++ catOf b ts := by unfold catOf; rw [List.flatMap_cons]
    have h1 : t.data.toList.map (pt1 ⟨#[b]⟩) = t.data.toList.map fun c => Pt.it (c, false) := List.map_congr_left (fun c hc => by
      unfold pt1
      rw [isSep_one, decide_eq_false (h t (by simp) c hc)]; rfl)
    have h2 : pt1 ⟨#[b]⟩ b = .hd := by
      unfold pt1
      rw [isSep_one, decide_eq_true rfl, hbl]; rfl
    rw [e, List.map_append, List.map_append, fold_append, fold_append, h1, its_fold, List.nil_append]
    have h3 : fold ⟨fs, fld t.data.toList, false || !t.data.toList.isEmpty, false⟩ ([b].map (pt1 ⟨#[b]⟩)) = ⟨fs ++ [fld t.data.toList], [], false, false⟩ := by
      rw [List.map_cons, List.map_nil, h2]
      have e1 : ∀ m p, fold m [p] = m.step p := fun _ _ => rfl
      rw [e1]
      cases t.data.toList with
      | nil => rfl
      | cons c l => rfl
    rw [h3, ih (fun u hu => h u (by simp [hu]))]
    simp

theorem back_fields (b : UInt8) (hbl : isBlank b = false) (ts : List ByteArray) (h : ∀ t ∈ ts, ∀ c ∈ t.data.toList, c ≠ b) (hl : ts.length ≤ 100) (hc : (catOf b ts).length ≤ 2000) (all : ByteArray) (ha : all.data.toList = catOf b ts) :
    fieldsOf ((partsOf ⟨#[b]⟩ [⟨all, false, true⟩]).map ptOf) = some (ts.map fun t => fld t.data.toList) := by
  rw [parts_one, ha]
  have hf := back_fold b hbl ts h []
  rw [List.nil_append] at hf
  have h0 : fold mk0 ((catOf b ts).map (pt1 ⟨#[b]⟩)) = ⟨ts.map (fun t => fld t.data.toList), [], false, false⟩ := hf
  rcases fieldsOf_eq ((catOf b ts).map (pt1 ⟨#[b]⟩)) with ⟨h1, _⟩ | ⟨_, h2⟩
  · rw [h1, h0]; rfl
  · rw [h0] at h2
    exfalso
    rcases h2 with h2 | ⟨f, hf, h2⟩
    · have : (ts.map fun t => fld t.data.toList).length = ts.length := List.length_map _
      have h3 : 200 < (ts.map fun t => fld t.data.toList).length := h2
      omega
    · have hf' : f ∈ ts.map fun t => fld t.data.toList := hf
      obtain ⟨t, ht, rfl⟩ := List.mem_map.1 hf'
      rw [fld_len, Array.length_toList] at h2
      have := catOf_mem b ts t ht
      have e : t.size = t.data.size := rfl
      omega
end Go.Proofs.Ytlaidmjlgjpgcaa
