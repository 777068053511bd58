/- A literal that is open becomes a part. No condition. -/
import Derived.Test.YtgpkhpheomaiaaaWrdE
import Derived.Lib.UnsafeStr
namespace Go.Proofs.Ytgpkhpheomaiaaa
open Go.RowKit Go.PlainAid
attribute [local go_sem] Oper.semAt_some

theorem conv_bytes {W : World} {n₀ g c : Nat} {bs : List UInt8} (h : W.ownsRow n₀ 5 1 (.slice (some ⟨g, 0, none⟩) bs.length c) bs.length (Lib.byteCells bs)) :
    (convert 44 9 (.slice (some ⟨g, 0, none⟩) bs.length c)).run Try.prog W = .ok (.string ⟨bs.toArray⟩) W :=
  run_convert_bytes_back W 44 9 5 ⟨g, 0, none⟩ c bs Try.underlying44 (by kernel_rfl) (by kernel_rfl) (fun j hj => by
    have hc := h.cellAt j (by omega)
    have : (⟨g, 0, none⟩ : Addr).add j = ⟨g, j, none⟩ := by rw [Addr.add_mid, Nat.zero_add]
    rw [this, hc]
    simp [Lib.byteCells, hj])

theorem row_row {W : World} {e e' : TypeId} (hee : e ≠ e') {base size k base' size' k' : Nat} {v v' : Value} {xs xs' : List Value} (h : W.ownsRow base e size v k xs) (h' : W.ownsRow base' e' size' v' k' xs') {g : Nat} (hg : v.ownBlock = some g) : some g ≠ v'.ownBlock := by
  rcases h.2 with ⟨rfl, _⟩ | ⟨g1, cap, cur, rfl, _, hb, _⟩
  · simp [Value.ownBlock] at hg
  · obtain rfl : g1 = g := by simpa [Value.ownBlock] using hg
    exact row_off hb hee h'

/-- The bytes' row, cut to nothing: its room stays. -/
theorem row_cut {W : World} {base g n c : Nat} {e : TypeId} {xs : List Value} (h : W.ownsRow base e 1 (.slice (some ⟨g, 0, none⟩) n c) n xs) : W.ownsRow base e 1 (.slice (some ⟨g, 0, none⟩) 0 c) 0 [] := by
  rcases h.2 with ⟨h', _⟩ | ⟨g', cap', cur, h', hb, hg, _, hcm, hcs, _⟩
  · cases h'
  · cases h'
    exact ⟨rfl, .inr ⟨g, c, cur, rfl, hb, hg, Nat.zero_le _, hcm, hcs, by simp⟩⟩
/-- The part that a literal becomes. -/
abbrev litP (bs : List UInt8) (q : Bool) : Pt := ⟨1, ⟨bs.toArray⟩, ⟨#[]⟩, none, 0, 0, q⟩

section
variable {w : World} {b n₀ g : Nat} {t : ByteArray} {k d : Int} {a0 : Option Addr} {c0 c1 : Nat} {q : Bool} {ps : List Pt} {bs : List UInt8}

set_option maxRecDepth 100000 in
set_option maxHeartbeats 4000000 in
theorem close_any (h : Blk w b 59 (rd t k d a0 ps.length c0 (some ⟨g, 0, none⟩) bs.length c1 q true)) (hr : w.ownsRow n₀ 35 5 (.slice a0 ps.length c0) ps.length (pv ps))
    (hb : w.ownsRow n₀ 5 1 (.slice (some ⟨g, 0, none⟩) bs.length c1) bs.length (Lib.byteCells bs)) (hlen : ps.length < 100000) (hn : n₀ ≤ w.heap.size) :
    Calls Try.prog 27 #[.pointer (some ⟨b, 0, none⟩)] w fun e w' => e = .returned (.tuple #[]) ∧ ∃ a2 c2, (∀ k, Value.ownBlock (.slice a2 (ps.length + 1) c2) = some k → Value.ownBlock (.slice a0 ps.length c0) = some k ∨ w.heap.size ≤ k) ∧ Blk w' b 59 (rd t k d a2 (ps.length + 1) c2 (some ⟨g, 0, none⟩) 0 c1 false false) ∧
      w'.ownsRow n₀ 35 5 (.slice a2 (ps.length + 1) c2) (ps.length + 1) (pv (ps ++ [litP bs q])) ∧ w'.ownsRow n₀ 5 1 (.slice (some ⟨g, 0, none⟩) 0 c1) 0 [] ∧ Fr b (Value.ownBlock (.slice a0 ps.length c0)) w w' := by
  have e4 : w.drew.cell? ⟨b, 4, none⟩ = some (.slice (some ⟨g, 0, none⟩) bs.length c1) := h.cell 4
  have e5 : w.drew.cell? ⟨b, 5, none⟩ = some (.bool q) := h.cell 5
  have e6 : w.cell? ⟨b, 6, none⟩ = some (.bool true) := h.cell 6
  have hcv := conv_bytes (W := w.drew) hb
  have hH := Lib.hid h
  have hrH := Lib.hid hr
  have hb2 : ∀ w2, Fr b (Value.ownBlock (.slice a0 ps.length c0)) w.drew w2 → w2.ownsRow n₀ 5 1 (.slice (some ⟨g, 0, none⟩) bs.length c1) bs.length (Lib.byteCells bs) := fun w2 hF => row_keep (w := w) hb (fun i hi => hF.block i (row_lt hb hi) (fun e => row_off h (by decide) hb (by rw [hi, e])) (row_row (by decide) hb hr hi))
  clear h hr hb
  go_enter Try.func27, Try.ntmps27
  go_wp2_with fail
  go_region_held3 (fun w' => w'.cell? ⟨b, 4, none⟩ = some (.slice (some ⟨g, 0, none⟩) bs.length c1) ∧ w'.cell? ⟨b, 5, none⟩ = some (.bool q) ∧ (convert 44 9 (.slice (some ⟨g, 0, none⟩) bs.length c1)).run Try.prog w' = .ok (.string ⟨bs.toArray⟩) w')
    (first
      | with_reducible exact ⟨e4, e5, hcv⟩
      | (go_split_ands; with_reducible exact ⟨by assumption, by assumption, by assumption⟩)
      | exact ⟨hB2.cell 4, hB2.cell 5, conv_bytes (hb2 _ hF2)⟩)
    ((first | (go_at_call 37; refine (push_any b 3 n₀ 59 _ a0 c0 ps (litP bs q) _ (show Blk w.drew b 59 _ from hH.out) rfl (show World.ownsRow w.drew _ _ _ _ _ _ from hrH.out) hlen (by decide) hn).mono ?_; rintro e w2 ⟨rfl, a2, c2, hat2, hB2, hr2, hF2⟩)))
  have u4 : w2.cell? ⟨b, 4, none⟩ = some (.slice (some ⟨g, 0, none⟩) bs.length c1) := hB2.cell 4
  have u5 : w2.cell? ⟨b, 5, none⟩ = some (.bool q) := hB2.cell 5
  have u6 : w2.cell? ⟨b, 6, none⟩ = some (.bool true) := hB2.cell 6
  have v4 := hB2.frozen 4
  have v5 := hB2.frozen 5
  have v6 := hB2.frozen 6
  have hB3 := Lib.hid hB2
  have hr3 := Lib.hid hr2
  have hF3 := Lib.hid hF2
  have hoff := Lib.hid (row_off hB2 (by decide) hr2)
  have hb3 := Lib.hid (row_cut (hb2 _ hF2))
  have hgb : g ≠ b := fun e => row_off hB2 (by decide) (hb2 _ hF2) (by rw [e]; rfl)
  clear hB2 hr2 hF2 hb2
  go_wp2
  go_end0
  refine ⟨rfl, a2, c2, hat2, ((hB3.out.set_ 4 _).set_ 5 _).set_ 6 _, row_keep hr3.out (fun i hi => ?_), row_keep hb3.out (fun i hi => ?_), (((show Fr b _ w w2 from ⟨hF3.out.os, hF3.out.tape, hF3.out.output, hF3.out.size, hF3.out.block⟩).set_ _).set_ _).set_ _⟩
  · have hne : i ≠ b := fun e => hoff.out (by rw [← e, hi])
    exact (Below.heap_setCell _ _ _ _ hne).trans ((Below.heap_setCell _ _ _ _ hne).trans (Below.heap_setCell _ _ _ _ hne))
  · obtain rfl : g = i := by simpa [Value.ownBlock] using hi
    exact (Below.heap_setCell _ _ _ _ hgb).trans ((Below.heap_setCell _ _ _ _ hgb).trans (Below.heap_setCell _ _ _ _ hgb))
end
end Go.Proofs.Ytgpkhpheomaiaaa
