/- part and take of a word's reader, whatever it holds. No condition. -/
import Derived.Test.YtgpkhpheomaiaaaRdB
namespace Go.Proofs.Ytgpkhpheomaiaaa
open Go.RowKit Go.PlainAid
attribute [local go_sem] Oper.semAt_some

section
variable {w : World} {b n₀ : Nat} {t : ByteArray} {k d : Int} {D : Nat} {st : St} {O : Nat → Prop}

theorem Rd.own {w : World} {b n₀ : Nat} {t : ByteArray} {k d : Int} {D : Nat} {st : St} {O : Nat → Prop} (h : Rd w b n₀ t k d D st O) : ∀ g, O g → n₀ ≤ g ∧ g < w.heap.size := by
  obtain ⟨_, _, _, _, _, _, _, _, _, _, _, _, ⟨_, _, _, hO⟩, _⟩ := h
  exact hO
theorem Rd.size {w : World} {b n₀ : Nat} {t : ByteArray} {k d : Int} {D : Nat} {st : St} {O : Nat → Prop} (h : Rd w b n₀ t k d D st O) : n₀ ≤ w.heap.size := by have := h.lt; omega
theorem Rd.blk {w : World} {b n₀ : Nat} {t : ByteArray} {k d : Int} {D : Nat} {st : St} {O : Nat → Prop} (h : Rd w b n₀ t k d D st O) : ∃ (a0 : Option Addr) (n0 c0 : Nat) (a1 : Option Addr) (c1 : Nat), Blk w b 59 (rd t k d a0 n0 c0 a1 st.bytes.length c1 st.q st.o) := by
  obtain ⟨_, _, a0, c0, a1, c1, hB, _⟩ := h
  exact ⟨a0, _, c0, a1, c1, hB⟩

set_option maxRecDepth 100000 in
set_option maxHeartbeats 4000000 in
theorem part_rd {x : Pt} {p : PT} {T2 : Nat → Prop} (h : Rd w b n₀ t k d D st O) (hlen : st.ps.length < 90000) (hx : PtIs w T2 D x p) (hT2 : ∀ g, T2 g → n₀ ≤ g ∧ g < w.heap.size ∧ ¬ O g) :
    Calls Try.prog 34 #[.pointer (some ⟨b, 0, none⟩), .agg #[.int .i64 x.kind, .string x.text, .string x.op, .slice x.wa x.wn x.wc, .bool x.quoted]] w fun e w' => e = .returned (.tuple #[]) ∧ RdPost w b n₀ t k d D O (st.part p) w' := by
  have hlt := h.lt
  have hown := Lib.hid h.own
  have hH := Lib.hid h
  have hxH := Lib.hid hx
  have hT := Lib.hid hT2
  clear h hx hT2
  go_enter Try.func34, Try.ntmps34
  go_wp2_with (go_at_call 27; refine (close_rd (hH.out.alloc _) (by omega)).mono ?_; rintro e w2 ⟨rfl, O1, hR2, hg2, hF2⟩)
  have hsz : (w.alloc (.cells #[.int .i64 x.kind, .string x.text, .string x.op, .slice x.wa x.wn x.wc, .bool x.quoted] 35)).heap.size = w.heap.size + 1 := by simp
  have hnO : ¬ O w.heap.size := fun h => by have := (hown.out _ h).2; omega
  have hnO1 : ¬ O1 w.heap.size := fun h => (hg2 _ h).elim hnO (fun h => by omega)
  have hX : Blk w2 w.heap.size 35 #[.int .i64 x.kind, .string x.text, .string x.op, .slice x.wa x.wn x.wc, .bool x.quoted] := (hF2.block _ (by omega) hnO).trans (Blk.new w 35 _)
  have hA : Frm O w (w.alloc (.cells #[.int .i64 x.kind, .string x.text, .string x.op, .slice x.wa x.wn x.wc, .bool x.quoted] 35)) := ⟨rfl, rfl, rfl, by omega, fun g hg _ => Below.heap_alloc w _ g hg⟩
  have hA2 : Frm O w w2 := ⟨hF2.os, hF2.tape, hF2.output, by have := hF2.size; omega, fun g hg hO => (hF2.block g (by omega) hO).trans (hA.block g hg hO)⟩
  have hg3 : ∀ g, O1 g → O g ∨ w.heap.size ≤ g := fun g h => (hg2 g h).elim .inl (fun h => .inr (by omega))
  have hx2 : PtIs w2.drew T2 D x p := PtIs_mono (fun _ h => h) (fun g hg => hA2.block g (hT.out g hg).2.1 (hT.out g hg).2.2) hxH.out
  have hT3 : ∀ g, T2 g → n₀ ≤ g ∧ g < w2.drew.heap.size ∧ ¬ O1 g := fun g hg => ⟨(hT.out g hg).1, Nat.lt_of_lt_of_le (hT.out g hg).2.1 hA2.size, fun h => (hg3 g h).elim (hT.out g hg).2.2 (fun h => by have := (hT.out g hg).2.1; omega)⟩
  have hcl : st.close.ps.length ≤ st.ps.length + 1 := by unfold St.close; dsimp only; split <;> simp
  have x0 : w2.drew.cell? ⟨w.heap.size, 0, none⟩ = some (.int .i64 x.kind) := hX.cell 0
  have x1 : w2.drew.cell? ⟨w.heap.size, 1, none⟩ = some (.string x.text) := hX.cell 1
  have x2 : w2.drew.cell? ⟨w.heap.size, 2, none⟩ = some (.string x.op) := hX.cell 2
  have x3 : w2.drew.cell? ⟨w.heap.size, 3, none⟩ = some (.slice x.wa x.wn x.wc) := hX.cell 3
  have x4 : w2.drew.cell? ⟨w.heap.size, 4, none⟩ = some (.bool x.quoted) := hX.cell 4
  have hs2 := hF2.size
  have hX2 := Lib.hid hX
  have hR3 := Lib.hid hR2
  have hxx := Lib.hid hx2
  have hTT := Lib.hid hT3
  have hfin := Lib.hid (And.intro hg3 hA2)
  clear hX hR2 hx2 hT3 hF2 hA hA2 hg3 hg2
  go_region_held3 (fun w' => w'.cell? ⟨w.heap.size, 0, none⟩ = some (.int .i64 x.kind) ∧ w'.cell? ⟨w.heap.size, 1, none⟩ = some (.string x.text) ∧ w'.cell? ⟨w.heap.size, 2, none⟩ = some (.string x.op) ∧ w'.cell? ⟨w.heap.size, 3, none⟩ = some (.slice x.wa x.wn x.wc) ∧ w'.cell? ⟨w.heap.size, 4, none⟩ = some (.bool x.quoted))
    (first
      | with_reducible exact ⟨x0, x1, x2, x3, x4⟩
      | (go_split_ands; with_reducible exact ⟨by assumption, by assumption, by assumption, by assumption, by assumption⟩)
      | exact ⟨hX4.cell 0, hX4.cell 1, hX4.cell 2, hX4.cell 3, hX4.cell 4⟩
      | fail)
    ((first | (go_at_call 37; refine (push_rd hR3.out.drew (close_closed st) (by omega) hxx.out hTT.out).mono ?_; rintro e w3 ⟨rfl, O3, hR4, hg4, hF4⟩; have hX4 : Blk w3 w.heap.size 35 #[.int .i64 x.kind, .string x.text, .string x.op, .slice x.wa x.wn x.wc, .bool x.quoted] := (hF4.block _ (by show _ < w2.heap.size; omega) hnO1).trans hX2.out) | fail))
  go_end0
  refine ⟨rfl, RdPost.trans hfin.out.1 hfin.out.2 ⟨O3, hR4, hg4, ⟨hF4.os, hF4.tape, hF4.output, hF4.size, hF4.block⟩⟩⟩

/-- What is left of a take, behind its append. -/
theorem take_fin {w1 w2 : World} {q0 : Bool} {x : ByteArray} {q : Bool} {T : Nat → Prop} {pts : List Pt} {a0 a1 a2 : Option Addr} {c0 c1 c2 n : Nat}
    (hB : Blk w b 59 (rd t k d a0 pts.length c0 a1 st.bytes.length c1 st.q st.o)) (hr : w.ownsRow n₀ 35 5 (.slice a0 pts.length c0) pts.length (pv pts))
    (hl : pts.length = st.ps.length) (hp : ∀ (i : Nat) (x : Pt) (p : PT), pts[i]? = some x → st.ps[i]? = some p → PtIs w T D x p) (hT : ∀ g, T g → n₀ ≤ g ∧ g < w.heap.size ∧ ¬ O g)
    (o1 : O b) (o2 : ∀ g, Value.ownBlock (.slice a0 pts.length c0) = some g → O g) (o3 : ∀ g, Value.ownBlock (.slice a1 st.bytes.length c1) = some g → O g) (o4 : ∀ g, O g → n₀ ≤ g ∧ g < w.heap.size)
    (hw1 : w1 = (w.setCell ⟨b, 6, none⟩ (.bool q0)).setCell ⟨b, 5, none⟩ (.bool q) ∨ w1 = (w.setCell ⟨b, 5, none⟩ (.bool q)).setCell ⟨b, 6, none⟩ (.bool q0)) (hq0 : q0 = true)
    (hn : n = st.bytes.length + x.size)
    (hy : w2.ownsRow n₀ 5 1 (.slice a2 n c2) n (Lib.byteCells (st.bytes ++ x.data.toList))) (hg : w1.grownBy w2 (Value.ownBlock (.slice a1 st.bytes.length c1)))
    (hat : Value.ownBlock (.slice a2 n c2) = Value.ownBlock (.slice a1 st.bytes.length c1) ∨ Value.ownBlock (.slice a2 n c2) = none ∨ Value.ownBlock (.slice a2 n c2) = some w1.heap.size)
    (hyo : some b ≠ Value.ownBlock (.slice a1 st.bytes.length c1)) (hro : ∀ g, Value.ownBlock (.slice a0 pts.length c0) = some g → some g ≠ Value.ownBlock (.slice a1 st.bytes.length c1)) :
    RdPost w b n₀ t k d D O (st.add x q) (w2.setCell ⟨b, 4, none⟩ (.slice a2 n c2)) := by
  subst hq0
  have hlt := hB.lt
  have hB1 : Blk w1 b 59 (rd t k d a0 pts.length c0 a1 st.bytes.length c1 q true) := by
    rcases hw1 with rfl | rfl
    · exact (hB.set_ 6 (.bool true)).set_ 5 (.bool q)
    · exact (hB.set_ 5 (.bool q)).set_ 6 (.bool true)
  have hk1 : ∀ g, g ≠ b → w1.heap[g]? = w.heap[g]? := by
    intro g hgb
    rcases hw1 with rfl | rfl <;> exact (Below.heap_setCell _ _ _ _ hgb).trans (Below.heap_setCell _ _ _ _ hgb)
  have hs1 : w1.heap.size = w.heap.size := by rcases hw1 with rfl | rfl <;> simp
  have ho1 : w1.os = w.os ∧ w1.tape = w.tape ∧ w1.output = w.output := by rcases hw1 with rfl | rfl <;> exact ⟨rfl, rfl, rfl⟩
  have hB2 : Blk w2 b 59 (rd t k d a0 pts.length c0 a1 st.bytes.length c1 q true) := (hg.block b (by omega) hyo).trans hB1
  have hB3 := hB2.set_ 4 (.slice a2 n c2)
  have hlen : (st.add x q).bytes.length = n := by rw [hn]; show (st.bytes ++ x.data.toList).length = _; rw [List.length_append, ← Lib.size_eq]
  have hk2 : ∀ g, g < w.heap.size → ¬ O g → (w2.setCell ⟨b, 4, none⟩ (.slice a2 n c2)).heap[g]? = w.heap[g]? := fun g hg1 hO => by
    have hgb : g ≠ b := fun e => hO (e ▸ o1)
    exact (Below.heap_setCell _ _ _ _ hgb).trans ((hg.block g (by omega) (fun e => hO (o3 g e.symm))).trans (hk1 g hgb))
  have hF : Frm O w (w2.setCell ⟨b, 4, none⟩ (.slice a2 n c2)) := ⟨hg.os.trans ho1.1, hg.tape.trans ho1.2.1, hg.output.trans ho1.2.2, by have := hg.size; simp; omega, hk2⟩
  have hto : ∀ g, Value.ownBlock (.slice a2 n c2) = some g → O g ∨ w.heap.size ≤ g := by
    intro g e
    rcases hat with h | h | h
    · exact .inl (o3 g (h ▸ e))
    · rw [h] at e; cases e
    · rw [h] at e; cases e; exact .inr (by omega)
  have hgb2 : ∀ g, Value.ownBlock (.slice a2 n c2) = some g → g ≠ b := fun g e h => row_off hB2 (by decide) hy (by rw [e, h])
  refine ⟨fun g => O g ∨ Value.ownBlock (.slice a2 n c2) = some g, ⟨T, pts, a0, c0, a2, c2, ?_, ?_, ?_, hl, ?_, ?_, ⟨.inl o1, fun g hg => .inl (o2 g hg), fun g hg => .inr (by rw [← hg, hlen]), ?_⟩, fun h => (by cases h)⟩, fun g hg => hg.elim .inl (hto g), hF⟩
  · rw [hlen]; exact hB3
  · exact row_keep hr (fun g hg1 => by
      have hgb : g ≠ b := fun e => row_off hB (by decide) hr (by rw [hg1, e])
      exact (Below.heap_setCell _ _ _ _ hgb).trans ((hg.block g (by have := row_lt hr hg1; omega) (hro g hg1)).trans (hk1 g hgb)))
  · rw [hlen]; exact row_keep hy (fun g hg1 => Below.heap_setCell _ _ _ _ (hgb2 g hg1))
  · exact fun i x p hx hi => PtIs_mono (fun _ h => h) (fun g hg1 => hk2 g (hT g hg1).2.1 (hT g hg1).2.2) (hp i x p hx hi)
  · intro g hg1
    obtain ⟨h1, h2, h3⟩ := hT g hg1
    exact ⟨h1, Nat.lt_of_lt_of_le h2 hF.size, fun h => h.elim h3 (fun h => (hto g h).elim h3 (fun h => by omega))⟩
  · intro g hg1
    rcases hg1 with hg1 | hg1
    · exact ⟨(o4 g hg1).1, Nat.lt_of_lt_of_le (o4 g hg1).2 hF.size⟩
    · have := hy.lt g hg1
      exact ⟨this.1, by simpa using this.2⟩
end
end Go.Proofs.Ytgpkhpheomaiaaa
