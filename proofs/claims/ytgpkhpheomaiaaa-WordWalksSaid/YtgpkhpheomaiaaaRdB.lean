/- closeLit and part of a word's reader, whatever it holds. No condition. -/
import Derived.Test.YtgpkhpheomaiaaaRdA
namespace Go.Proofs.Ytgpkhpheomaiaaa
open Go.RowKit Go.PlainAid
attribute [local go_sem] Oper.semAt_some

theorem conv_nil (W : World) : (convert 44 9 (.slice none 0 0)).run Try.prog W = .ok (.string ⟨#[]⟩) W := by kernel_rfl

section
variable {w : World} {b n₀ : Nat} {t : ByteArray} {k d : Int} {a0 : Option Addr} {c0 : Nat} {q : Bool} {ps : List Pt}

set_option maxRecDepth 100000 in
set_option maxHeartbeats 4000000 in
theorem close_nil (h : Blk w b 59 (rd t k d a0 ps.length c0 none 0 0 q true)) (hr : w.ownsRow n₀ 35 5 (.slice a0 ps.length c0) ps.length (pv ps))
    (hlen : ps.length < 100000) (hn : n₀ ≤ w.heap.size) :
    Calls Try.prog 27 #[.pointer (some ⟨b, 0, none⟩)] w fun e w' => e = .returned (.tuple #[]) ∧ ∃ a2 c2, (∀ k, Value.ownBlock (.slice a2 (ps.length + 1) c2) = some k → Value.ownBlock (.slice a0 ps.length c0) = some k ∨ w.heap.size ≤ k) ∧ Blk w' b 59 (rd t k d a2 (ps.length + 1) c2 none 0 0 false false) ∧
      w'.ownsRow n₀ 35 5 (.slice a2 (ps.length + 1) c2) (ps.length + 1) (pv (ps ++ [litP [] q])) ∧ Fr b (Value.ownBlock (.slice a0 ps.length c0)) w w' := by
  have e4 : w.drew.cell? ⟨b, 4, none⟩ = some (.slice none 0 0) := h.cell 4
  have e5 : w.drew.cell? ⟨b, 5, none⟩ = some (.bool q) := h.cell 5
  have e6 : w.cell? ⟨b, 6, none⟩ = some (.bool true) := h.cell 6
  have hcv := conv_nil w.drew
  have hH := Lib.hid h
  have hrH := Lib.hid hr
  clear h hr
  go_enter Try.func27, Try.ntmps27
  go_wp2_with fail
  go_region_held3 (fun w' => w'.cell? ⟨b, 4, none⟩ = some (.slice none 0 0) ∧ w'.cell? ⟨b, 5, none⟩ = some (.bool q) ∧ (convert 44 9 (.slice none 0 0)).run Try.prog w' = .ok (.string ⟨#[]⟩) w')
    (first
      | with_reducible exact ⟨e4, e5, hcv⟩
      | (go_split_ands; with_reducible exact ⟨by assumption, by assumption, by assumption⟩)
      | exact ⟨hB2.cell 4, hB2.cell 5, conv_nil _⟩
      | fail)
    ((first | (go_at_call 37; refine (push_any b 3 n₀ 59 _ a0 c0 ps (litP [] q) _ (show Blk w.drew b 59 _ from hH.out) rfl (show World.ownsRow w.drew _ _ _ _ _ _ from hrH.out) hlen (by decide) hn).mono ?_; rintro e w2 ⟨rfl, a2, c2, hat2, hB2, hr2, hF2⟩) | fail))
  have u4 : w2.cell? ⟨b, 4, none⟩ = some (.slice none 0 0) := hB2.cell 4
  have u5 : w2.cell? ⟨b, 5, none⟩ = some (.bool q) := hB2.cell 5
  have u6 : w2.cell? ⟨b, 6, none⟩ = some (.bool true) := hB2.cell 6
  have v4 := hB2.frozen 4
  have v5 := hB2.frozen 5
  have v6 := hB2.frozen 6
  have hB3 := Lib.hid hB2
  have hr3 := Lib.hid hr2
  have hF3 := Lib.hid hF2
  have hoff := Lib.hid (row_off hB2 (by decide) hr2)
  clear hB2 hr2 hF2
  go_wp2
  go_end0
  refine ⟨rfl, a2, c2, hat2, ((hB3.out.set_ 4 _).set_ 5 _).set_ 6 _, row_keep hr3.out (fun i hi => ?_), (((show Fr b _ w w2 from ⟨hF3.out.os, hF3.out.tape, hF3.out.output, hF3.out.size, hF3.out.block⟩).set_ _).set_ _).set_ _⟩
  have hne : i ≠ b := fun e => hoff.out (by rw [← e, hi])
  exact (Below.heap_setCell _ _ _ _ hne).trans ((Below.heap_setCell _ _ _ _ hne).trans (Below.heap_setCell _ _ _ _ hne))
end

section
variable {w : World} {b n₀ : Nat} {t : ByteArray} {k d : Int} {D : Nat} {st : St} {O : Nat → Prop}

theorem close_shut (h : st.o = false) : st.close = ⟨st.ps, [], false, false⟩ := by unfold St.close; rw [h]; rfl
theorem close_open (h : st.o = true) : st.close = ⟨st.ps ++ [litT st.bytes st.q], [], false, false⟩ := by unfold St.close; rw [h]; rfl

theorem own_len {a : Option Addr} {n m c : Nat} : Value.ownBlock (.slice a n c) = Value.ownBlock (.slice a m c) := by cases a <;> rfl

theorem close_rd (h : Rd w b n₀ t k d D st O) (hlen : st.ps.length < 100000) :
    Calls Try.prog 27 #[.pointer (some ⟨b, 0, none⟩)] w fun e w' => e = .returned (.tuple #[]) ∧ RdPost w b n₀ t k d D O st.close w' := by
  have hlt := h.lt
  obtain ⟨T, pts, a0, c0, a1, c1, hB, hr, hy, hl, hp, hT, ⟨o1, o2, o3, o4⟩, hq⟩ := h
  cases ho : st.o
  · obtain ⟨hb0, hq0⟩ := hq ho
    rw [ho, hb0, hq0] at hB
    rw [hb0] at hy o3
    refine (shut_any hB).mono ?_
    rintro e w' ⟨rfl, hB', hF⟩
    have hO := hF.frm o1 (O := O) (fun g hg => by cases hg)
    refine ⟨rfl, O, ?_, fun g hg => .inl hg, hO⟩
    rw [close_shut ho]
    exact ⟨T, pts, a0, c0, a1, c1, hB', row_keep hr (fun g hg => hF.block g (row_lt hr hg) (fun e => row_off hB (by decide) hr (by rw [hg, e])) (fun e => by cases e)),
      row_keep hy (fun g hg => hF.block g (row_lt hy hg) (fun e => row_off hB (by decide) hy (by rw [hg, e])) (fun e => by cases e)), hl,
      fun i x p hx hi => PtIs_mono (fun _ h => h) (fun g hg => hO.block g (hT g hg).2.1 (hT g hg).2.2) (hp i x p hx hi),
      fun g hg => ⟨(hT g hg).1, Nat.lt_of_lt_of_le (hT g hg).2.1 hF.size, (hT g hg).2.2⟩, ⟨o1, o2, o3, fun g hg => ⟨(o4 g hg).1, Nat.lt_of_lt_of_le (o4 g hg).2 hF.size⟩⟩, fun _ => ⟨rfl, rfl⟩⟩
  · rw [ho] at hB
    -- whichever way the bytes lie, the parts' row has one more
    have fin : ∀ (w' : World) (a2 : Option Addr) (c2 : Nat), (∀ k, Value.ownBlock (.slice a2 (pts.length + 1) c2) = some k → Value.ownBlock (.slice a0 pts.length c0) = some k ∨ w.heap.size ≤ k) →
        Blk w' b 59 (rd t k d a2 (pts.length + 1) c2 a1 0 c1 false false) → w'.ownsRow n₀ 35 5 (.slice a2 (pts.length + 1) c2) (pts.length + 1) (pv (pts ++ [litP st.bytes st.q])) →
        w'.ownsRow n₀ 5 1 (.slice a1 0 c1) 0 [] → Fr b (Value.ownBlock (.slice a0 pts.length c0)) w w' → RdPost w b n₀ t k d D O st.close w' := by
      intro w' a2 c2 hat hB' hr' hy' hF
      have hO := hF.frm o1 (O := O) o2
      rw [close_open ho]
      refine ⟨fun g => O g ∨ Value.ownBlock (.slice a2 (pts.length + 1) c2) = some g, ?_, fun g hg => hg.elim .inl (fun h => (hat g h).elim (fun h => .inl (o2 g h)) .inr), hO⟩
      refine ⟨T, pts ++ [litP st.bytes st.q], a2, c2, a1, c1, by simpa using hB', by simpa using hr', hy', by simp [hl], pts_snoc hl hp (fun _ h => h) (fun g hg => hO.block g (hT g hg).2.1 (hT g hg).2.2) ⟨rfl, rfl, rfl, rfl, WAt_nil _ _ _⟩, ?_, ⟨.inl o1, fun g hg => .inr (by simpa using hg), fun g hg => .inl (o3 g (by rw [own_len (m := 0)]; exact hg)), ?_⟩, fun _ => ⟨rfl, rfl⟩⟩
      · intro g hg
        obtain ⟨h1, h2, h3⟩ := hT g hg
        exact ⟨h1, Nat.lt_of_lt_of_le h2 hF.size, fun h => h.elim h3 (fun h => (hat g h).elim (fun h => h3 (o2 g h)) (fun h => by omega))⟩
      · intro g hg
        rcases hg with hg | hg
        · exact ⟨(o4 g hg).1, Nat.lt_of_lt_of_le (o4 g hg).2 hF.size⟩
        · exact hr'.lt g hg
    rcases hy.2 with ⟨hv, hx⟩ | ⟨g, cap, cur, hv, _⟩
    · have hb0 : st.bytes = [] := by simpa [Lib.byteCells] using hx
      rw [hb0] at hv hB hy
      simp only [List.length_nil] at hv hB hy
      obtain ⟨rfl, rfl⟩ : a1 = none ∧ c1 = 0 := by simpa using hv
      refine (close_nil hB hr (by omega) (by omega)).mono ?_
      rintro e w' ⟨rfl, a2, c2, hat, hB', hr', hF⟩
      exact ⟨rfl, fin w' a2 c2 hat hB' (by rw [hb0]; exact hr') (World.ownsRow_nil w' _ _ _) hF⟩
    · obtain ⟨rfl, rfl⟩ : a1 = some ⟨g, 0, none⟩ ∧ c1 = cap := by simpa using hv
      refine (close_any hB hr hy (by omega) (by omega)).mono ?_
      rintro e w' ⟨rfl, a2, c2, hat, hB', hr', hy', hF⟩
      exact ⟨rfl, fin w' a2 c2 hat hB' hr' hy' hF⟩

/-- A part pushed behind what is closed. -/
theorem push_rd {x : Pt} {p : PT} {T2 : Nat → Prop} (h : Rd w b n₀ t k d D st O) (hst : st.bytes = [] ∧ st.q = false ∧ st.o = false) (hlen : st.ps.length < 100000) (hx : PtIs w T2 D x p) (hT2 : ∀ g, T2 g → n₀ ≤ g ∧ g < w.heap.size ∧ ¬ O g) :
    Calls Try.prog 37 #[.pointer (some ⟨b, 3, none⟩), .agg #[.int .i64 x.kind, .string x.text, .string x.op, .slice x.wa x.wn x.wc, .bool x.quoted]] w fun e w' => e = .returned (.tuple #[]) ∧ RdPost w b n₀ t k d D O ⟨st.ps ++ [p], [], false, false⟩ w' := by
  have hlt := h.lt
  obtain ⟨T, pts, a0, c0, a1, c1, hB, hr, hy, hl, hp, hT, ⟨o1, o2, o3, o4⟩, hq⟩ := h
  obtain ⟨s1, s2, s3⟩ := hst
  rw [s1, s2, s3] at hB
  rw [s1] at hy o3
  refine (push_any b 3 n₀ 59 _ a0 c0 pts x w hB rfl hr (by omega) (by decide) (by omega)).mono ?_
  rintro e w' ⟨rfl, a2, c2, hat, hB', hr', hF⟩
  have hO := hF.frm o1 (O := O) o2
  refine ⟨rfl, fun g => O g ∨ Value.ownBlock (.slice a2 (pts.length + 1) c2) = some g, ?_, fun g hg => hg.elim .inl (fun h => (hat g h).elim (fun h => .inl (o2 g h)) .inr), hO⟩
  have hnot : ∀ g, g < w.heap.size → ¬ O g → ¬ (O g ∨ Value.ownBlock (.slice a2 (pts.length + 1) c2) = some g) := fun g h2 h3 h => h.elim h3 (fun h => (hat g h).elim (fun h => h3 (o2 g h)) (fun h => by omega))
  refine ⟨fun g => T g ∨ T2 g, pts ++ [x], a2, c2, a1, c1, by simpa using hB', by simpa using hr', row_keep hy (fun g hg => hF.block g (row_lt hy hg) (fun e => row_off hB (by decide) hy (by rw [hg, e])) (fun e => by
      cases g0 : Value.ownBlock (.slice a0 pts.length c0) with
      | none => rw [g0] at e; cases e
      | some g1 => exact row_row (by decide) hy hr hg e)), by simp [hl],
    pts_snoc hl hp (fun _ h => .inl h) (fun g hg => hO.block g (hT g hg).2.1 (hT g hg).2.2) (PtIs_mono (fun _ h => .inr h) (fun g hg => hO.block g (hT2 g hg).2.1 (hT2 g hg).2.2) hx), ?_, ⟨.inl o1, fun g hg => .inr (by simpa using hg), fun g hg => .inl (o3 g hg), ?_⟩, fun _ => ⟨rfl, rfl⟩⟩
  · intro g hg
    rcases hg with hg | hg
    · obtain ⟨h1, h2, h3⟩ := hT g hg
      exact ⟨h1, Nat.lt_of_lt_of_le h2 hF.size, hnot g h2 h3⟩
    · obtain ⟨h1, h2, h3⟩ := hT2 g hg
      exact ⟨h1, Nat.lt_of_lt_of_le h2 hF.size, hnot g h2 h3⟩
  · intro g hg
    rcases hg with hg | hg
    · exact ⟨(o4 g hg).1, Nat.lt_of_lt_of_le (o4 g hg).2 hF.size⟩
    · exact hr'.lt g hg
theorem close_closed (s : St) : s.close.bytes = [] ∧ s.close.q = false ∧ s.close.o = false := ⟨rfl, rfl, rfl⟩
theorem part_eq (s : St) (p : PT) : s.part p = ⟨s.close.ps ++ [p], [], false, false⟩ := rfl
end
end Go.Proofs.Ytgpkhpheomaiaaa
