/- What pieces give where no byte splits. No condition but lengths. -/
import Derived.Test.YtlaidmjlgjpgcaaSplL
namespace Go.Proofs.Ytlaidmjlgjpgcaa
open Go.RowKit

/-- The bytes of all pieces. -/
def bytesCat (ps : List Pc) : List UInt8 := ps.flatMap fun p => p.t.data.toList
def anyQ (ps : List Pc) : Bool := ps.any fun p => p.q
def qOf (ps : List Pc) : List Pc := ps.map fun p => ⟨p.t, true, p.sp⟩
def whole (ps : List Pc) : List Ch := ps.flatMap fun p => p.t.data.toList.map fun c => (c, p.q)
def begun (ps : List Pc) : Bool := ps.any fun p => p.q || !p.t.data.toList.isEmpty
def pcv (ps : List Pc) : List Value := ps.flatMap fun p => [.string p.t, .bool p.q, .bool p.sp]

theorem pcv_len (ps : List Pc) : (pcv ps).length = ps.length * 3 := by
  unfold pcv; induction ps with
  | nil => rfl
  | cons c f ih => rw [List.flatMap_cons, List.length_append, ih, List.length_cons]; simp; omega
theorem pcv_get {ps : List Pc} {j : Nat} {p : Pc} (h : ps[j]? = some p) : (pcv ps)[j * 3]? = some (.string p.t) ∧ (pcv ps)[j * 3 + 1]? = some (.bool p.q) ∧ (pcv ps)[j * 3 + 2]? = some (.bool p.sp) := by
  unfold pcv
  induction ps generalizing j with
  | nil => simp at h
  | cons x f ih =>
    rw [List.flatMap_cons]
    cases j with
    | zero =>
      obtain rfl : x = p := by simpa using h
      exact ⟨rfl, rfl, rfl⟩
    | succ j =>
      have := ih (j := j) (by simpa using h)
      rw [show (j + 1) * 3 = j * 3 + 3 by omega]
      exact ⟨this.1, by rw [show j * 3 + 3 + 1 = j * 3 + 1 + 3 by omega]; exact this.2.1, by rw [show j * 3 + 3 + 2 = j * 3 + 2 + 3 by omega]; exact this.2.2⟩
theorem txt_whole (ps : List Pc) : txt (whole ps) = bytesCat ps := by
  unfold txt whole bytesCat
  rw [List.map_flatMap]
  congr 1
  funext p
  rw [List.map_map]
  exact List.map_id' _
theorem whole_len (ps : List Pc) : (whole ps).length = (bytesCat ps).length := by rw [← txt_whole]; unfold txt; rw [List.length_map]
theorem bytesCat_q (ps : List Pc) : bytesCat (qOf ps) = bytesCat ps := by unfold bytesCat qOf; rw [List.flatMap_map]
theorem begun_q (ps : List Pc) (h : ps ≠ []) : begun (qOf ps) = true := by
  cases ps with
  | nil => exact absurd rfl h
  | cons p r => simp [begun, qOf]
theorem begun_eq (ps : List Pc) : begun ps = (anyQ ps || !(bytesCat ps).isEmpty) := by
  unfold begun anyQ bytesCat
  induction ps with
  | nil => rfl
  | cons p r ih =>
    rw [List.any_cons, List.any_cons, ih, List.flatMap_cons]
    cases p.q <;> cases h : p.t.data.toList <;> simp

theorem whole_fold (ifs : ByteArray) (ps : List Pc) : (∀ p ∈ ps, ∀ c, mkP ifs p c = .it c p.q) → ∀ fs f bb s, fold ⟨fs, f, bb, s⟩ ((partsOf ifs ps).map ptOf) = ⟨fs, f ++ whole ps, bb || begun ps, s⟩ := by
  induction ps with
  | nil => intro _ fs f bb s; simp [partsOf, fold, whole, begun]
  | cons p ps ih =>
    intro h fs f bb s
    have e : (partsOf ifs (p :: ps)).map ptOf = (headP p).map ptOf ++ ((bytesP ifs p).map ptOf ++ (partsOf ifs ps).map ptOf) := by
      unfold partsOf partsP
      rw [List.flatMap_cons, List.map_append, List.map_append, List.append_assoc]
    have e1 : fold ⟨fs, f, bb, s⟩ ((headP p).map ptOf) = ⟨fs, f, bb || p.q, s⟩ := by
      unfold headP
      cases p.q
      · simp [fold]
      · simp [fold, ptOf, Mk.step]
    have e2 : ∀ (l : List UInt8) (f : List Ch) (bb : Bool), fold ⟨fs, f, bb, s⟩ ((l.map (mkP ifs p)).map ptOf) = ⟨fs, f ++ l.map (fun c => (c, p.q)), bb || !l.isEmpty, s⟩ := by
      intro l
      induction l with
      | nil => intro f bb; simp [fold]
      | cons c l ihl =>
        intro f bb
        have e3 : fold ⟨fs, f, bb, s⟩ (((c :: l).map (mkP ifs p)).map ptOf) = fold ⟨fs, f ++ [(c, p.q)], true, s⟩ ((l.map (mkP ifs p)).map ptOf) := by
          rw [List.map_cons, List.map_cons, h p (by simp) c]
          rfl
        rw [e3, ihl]
        simp
    have e4 : whole (p :: ps) = p.t.data.toList.map (fun c => (c, p.q)) ++ whole ps := by unfold whole; rw [List.flatMap_cons]
    have e5 : begun (p :: ps) = ((p.q || !p.t.data.toList.isEmpty) || begun ps) := by unfold begun; rw [List.any_cons]
    rw [e, fold_append, fold_append, e1]
    unfold bytesP
    rw [e2, ih (fun q hq => h q (by simp [hq])), e4, e5, List.append_assoc, Bool.or_assoc, Bool.or_assoc, Bool.or_assoc]

theorem whole_fields (ifs : ByteArray) (ps : List Pc) (h : ∀ p ∈ ps, ∀ c, mkP ifs p c = .it c p.q) (hl : (bytesCat ps).length ≤ 4000) :
    fieldsOf ((partsOf ifs ps).map ptOf) = some (bif begun ps then [whole ps] else []) := by
  have h0 := whole_fold ifs ps h [] [] false false
  rw [List.nil_append, Bool.false_or] at h0
  have h1 : fold mk0 ((partsOf ifs ps).map ptOf) = ⟨[], whole ps, begun ps, false⟩ := h0
  have h2 : (fold mk0 ((partsOf ifs ps).map ptOf)).fin.fs = bif begun ps then [whole ps] else [] := by
    rw [h1]
    unfold Mk.fin
    cases begun ps <;> rfl
  rcases fieldsOf_eq ((partsOf ifs ps).map ptOf) with ⟨h3, _⟩ | ⟨_, h3⟩
  · rw [h3, h2]
  · rw [h2] at h3
    exfalso
    cases hb : begun ps <;> rw [hb] at h3
    · rcases h3 with h3 | ⟨f, hf, h3⟩
      · simp at h3
      · simp at hf
    · rcases h3 with h3 | ⟨f, hf, h3⟩
      · simp at h3
      · have : f = whole ps := by simpa using hf
        rw [this, whole_len] at h3
        omega

theorem mk_none (p : Pc) (c : UInt8) : mkP ⟨#[]⟩ p c = .it c p.q := by
  have e : isSep ⟨#[]⟩ c = false := by unfold isSep; exact decide_eq_false (by show ¬ 0 ≤ Lib.indexByte [] c; simp [Lib.indexByte])
  unfold mkP
  rw [e, Bool.and_false]; rfl
theorem mk_q (ifs : ByteArray) (ps : List Pc) : ∀ p ∈ qOf ps, ∀ c, mkP ifs p c = .it c p.q := by
  intro p hp c
  obtain ⟨q, _, rfl⟩ := List.mem_map.1 hp
  unfold mkP
  simp

/-- A list of pieces that the law made. -/
theorem pcs_own {n₀ : Nat} {w : World} {v : Value} {ps : List Pc} (h : w.ownsRow n₀ 39 3 v ps.length (pcv ps)) (hs : ∀ p ∈ ps, p.t.size ≤ 9223372036854775807) : ∃ av cv, v = .slice av ps.length cv ∧ PcsAt w.heap.size w av ps := by
  have hc := @World.ownsRow.cells _ _ _ _ _ _ _ h
  rcases h.2 with ⟨rfl, h0⟩ | ⟨g, cap, cur, rfl, _, hb, _⟩
  · exact ⟨none, 0, by rw [h0], fun i p hp => by have := (List.getElem?_eq_some_iff.1 hp).1; omega⟩
  · refine ⟨_, _, rfl, fun i p hp => ?_⟩
    obtain ⟨h0, h1, h2⟩ := pcv_get hp
    have a0 := hc (g := g) rfl _ _ h0
    have a1 := hc (g := g) rfl _ _ h1
    have a2 := hc (g := g) rfl _ _ h2
    rw [Lib.add_plain] at a0 a1 a2
    exact ⟨g, 0, rfl, (Array.getElem?_eq_some_iff.1 hb).1, a0, a1, a2, hs p (List.mem_of_getElem? hp)⟩

theorem snoc_take {α : Type} {l : List α} {k : Nat} {x : α} (h : l[k]? = some x) : l.take (k + 1) = l.take k ++ [x] := by
  obtain ⟨h1, h2⟩ := List.getElem?_eq_some_iff.1 h
  rw [List.take_succ_eq_append_getElem h1, h2]
end Go.Proofs.Ytlaidmjlgjpgcaa
