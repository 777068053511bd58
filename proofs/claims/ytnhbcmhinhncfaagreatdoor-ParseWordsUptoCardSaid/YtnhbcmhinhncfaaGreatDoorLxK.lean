/- The builder's WriteString. No condition. -/
import Derived.Test.YtnhbcmhinhncfaaGreatDoorLxF
import Derived.Lib.AppendStr
namespace Go.Proofs.YtnhbcmhinhncfaaGreatDoor
open Go.RowKit Go.PlainAid
attribute [local go_sem] Oper.semAt_some

theorem und9 : Tryz.prog.underlying 9 = some .string := by kernel_rfl

set_option maxRecDepth 100000 in
/-- A string's bytes behind a row of one's own: where the new row lies. -/
theorem run_str (W : World) {n₀ n c1 : Nat} {a1 : Option Addr} {xs : List Value} (ty : TypeId) (hown : W.ownsRow n₀ 5 1 (.slice a1 n c1) n xs) (s : ByteArray) (hb : n + s.size ≤ 1000000) (hn : n₀ ≤ W.heap.size) :
    ∃ a2 c2 w2, (Builtin.append_ #[62, 9] ty #[.slice a1 n c1, .string s]).run Tryz.prog W = .ok (.slice a2 (n + s.size) c2) w2 ∧ w2.ownsRow n₀ 5 1 (.slice a2 (n + s.size) c2) (n + s.size) (xs ++ Lib.strCells s) ∧ W.grownBy w2 (Value.ownBlock (.slice a1 n c1)) ∧
      (Value.ownBlock (.slice a2 (n + s.size) c2) = Value.ownBlock (.slice a1 n c1) ∨ Value.ownBlock (.slice a2 (n + s.size) c2) = none ∨ Value.ownBlock (.slice a2 (n + s.size) c2) = some W.heap.size) := by
  obtain ⟨i0, hi0, hz0, hz1, hz2⟩ := info_parts infoB
  obtain ⟨v, w2, hr, h2, h3, h4⟩ := Lib.run_append_own_string (P := Tryz.prog) W n₀ 62 9 ty 5 i0 Tryz.underlying62 und9 hi0 hz0 hz1 hz2 _ n xs hown s (by unfold maxLen; omega) (by omega) hn
  rcases h2.2 with ⟨rfl, hx⟩ | ⟨g, cap, cur, rfl, _⟩
  · have h0' : n + s.size = 0 := hx
    rw [h0'] at h2 ⊢
    exact ⟨none, 0, w2, hr, h2, h3, .inr (.inl rfl)⟩
  · refine ⟨some ⟨g, 0, none⟩, cap, w2, hr, h2, h3, ?_⟩
    rcases hown.2 with ⟨e, hx⟩ | ⟨g1, cap1, cur1, e, _, hg, hc1, hc2, hc3, hc4⟩
    · obtain ⟨rfl, rfl, rfl⟩ : a1 = none ∧ n = 0 ∧ c1 = 0 := by simpa using e
      by_cases hm : s.size = 0
      · have := h4.2 ⟨rfl, hm⟩
        cases this
      · have hr2 := run_append_nil_string (P := Tryz.prog) W 62 9 ty 5 i0 (.int .u8 0) Tryz.underlying62 und9 hi0 hz0 s (by omega) (by omega) (by rw [hz2]; omega)
        rw [hr] at hr2
        injection hr2 with e1 e2
        right; right
        injection e1 with e1
        rw [e1]
        rfl
    · obtain ⟨rfl, rfl⟩ : a1 = some ⟨g1, 0, none⟩ ∧ c1 = cap1 := by simpa using e
      by_cases hroom : n + s.size ≤ c1
      · have hr2 := Lib.run_append_room_string (P := Tryz.prog) W 62 9 ty 5 i0 Tryz.underlying62 und9 hi0 hz1 g1 n c1 cur1 hg s hroom (by omega)
        rw [hr] at hr2
        injection hr2 with e1 e2
        left
        injection e1 with e1
        rw [e1]
        rfl
      · have hxl : xs.length = n := by simpa using hown.1
        have hr2 := Lib.run_append_grow_string (P := Tryz.prog) W 62 9 ty 5 i0 (.int .u8 0) Tryz.underlying62 und9 hi0 hz0 ⟨g1, 0, none⟩ n c1 xs (by rw [hz1]; simpa using hxl) (hown.cells (g := g1) rfl) s (by omega) (by omega) (by rw [hz2]; exact growslice_fits (by omega) (by omega))
        rw [hr] at hr2
        injection hr2 with e1 e2
        right; right
        injection e1 with e1
        rw [e1]
        rfl

theorem wpList_str {ops : Array Oper} {rest : List Oper} {o : Oper} {a : Act} {W : World} {Q : Exit → Act → World → Prop} {n₀ n c1 : Nat} {a1 : Option Addr} {xs : List Value} (hgd : o.guard = none) (sl x : Operand)
    (ho : o.op = .call { callee := .builtin .append, args := #[sl, x], argTypes := #[62, 9] }) (hs : a.eval sl = .slice a1 n c1) (s : ByteArray) (hx : a.eval x = .string s)
    (hown : W.ownsRow n₀ 5 1 (.slice a1 n c1) n xs) (hb : n + s.size ≤ 1000000) (hn : n₀ ≤ W.heap.size)
    (h : ∀ a2 c2 w2, w2.ownsRow n₀ 5 1 (.slice a2 (n + s.size) c2) (n + s.size) (xs ++ Lib.strCells s) → W.grownBy w2 (Value.ownBlock (.slice a1 n c1)) →
      (Value.ownBlock (.slice a2 (n + s.size) c2) = Value.ownBlock (.slice a1 n c1) ∨ Value.ownBlock (.slice a2 (n + s.size) c2) = none ∨ Value.ownBlock (.slice a2 (n + s.size) c2) = some W.heap.size) → wpList Tryz.prog ops Q rest (a.put o.dst (.slice a2 (n + s.size) c2)) w2) : wpList Tryz.prog ops Q (o :: rest) a W := by
  refine wpList_plain hgd fun K hK => ?_
  obtain ⟨a2, c2, w2, hr, h2, h3, h4⟩ := run_str W o.type hown s hb hn
  unfold Oper.wp execOp
  simp only [ho, resolve, invoke, builtin, Sem.run_bind, Sem.run_pure, Result.andThen_ok, List.map_toArray, List.map_cons, List.map_nil, hs, hx, hr]
  exact hK _ _ (h a2 c2 w2 h2 h3 h4)

set_option maxHeartbeats 2000000 in
set_option maxRecDepth 100000 in
theorem writeString_any (B b : Nat) (l : List UInt8) (x : ByteArray) (w : World) (h : Lib.IsBuilder 80 5 B b (Lib.byteCells l) w) (hlen : l.length + x.size ≤ 1000000) (hBw : B ≤ w.heap.size) :
    Calls Tryz.prog 39 #[.pointer (some ⟨b, 0, none⟩), .string x] w fun e w' => e = .returned (.tuple #[.int .i64 x.size, .nilIface]) ∧ (Lib.BuilderAt 80 5 B b (.pointer (some ⟨b, 0, none⟩)) (Lib.byteCells (l ++ x.data.toList)) w' ∧ Below B w w') := by
  have hcc := Lib.hid (copyCheck_any B b _ w h)
  clear h
  go_enter Tryz.func39, Tryz.ntmps39
  go_wp2_with fail
  refine hcc.out.mono ?_
  rintro e w1 ⟨rfl, h1, hb1⟩
  have hsz := hb1.size
  have hb1H := Lib.hid hb1
  clear hb1 hcc
  obtain ⟨hB, v, hbk, hown, hne⟩ := h1
  have hlc : (Lib.byteCells l).length = l.length := Lib.byteCells_length l
  rw [hlc] at hown
  obtain ⟨va, vc, rfl⟩ := ownsRow_slice hown
  have c0 : w1.cell? ⟨b, 0, none⟩ = some (.pointer (some ⟨b, 0, none⟩)) := by rw [Lib.cell_of_heap hbk]; rfl
  have c1 : w1.cell? ⟨b, 1, none⟩ = some (.slice va l.length vc) := by rw [Lib.cell_of_heap hbk]; rfl
  have hlt : b < w1.heap.size := (Array.getElem?_eq_some_iff.1 hbk).1
  have hownH := Lib.hid hown
  have hneH := Lib.hid hne
  have hbkH := Lib.hid hbk
  clear hown hne hbk hlc
  go_wp2_with (at_builtin; refine wpList_str (by rfl) _ _ (by rfl) (by rfl) x (by rfl) hownH.out hlen (by omega) ?_; intro a2 c2 w2 hy2 hg2 hat2; have hb2 := Lib.hid ((hg2.block b hlt (fun e => hneH.out e.symm)).trans hbkH.out); have d1 : w2.cell? ⟨b, 1, none⟩ = some (.slice va l.length vc) := (by rw [Lib.cell_of_heap hb2.out]; rfl); have f1 : w2.frozen? ⟨b, 1, none⟩ = false := (by simp [World.frozen?, hb2.out]); have hgH := Lib.hid hg2; have hoH := Lib.hid hy2; clear hg2 hy2 hat2)
  go_ret2
  have hcells : Lib.byteCells l ++ Lib.strCells x = Lib.byteCells (l ++ x.data.toList) := by rw [Lib.byteCells_append]; rfl
  rw [hcells] at hoH
  have hll : (Lib.byteCells (l ++ x.data.toList)).length = l.length + x.size := by rw [Lib.byteCells_length, List.length_append, ← Lib.size_eq]
  refine ⟨rfl, ⟨hB, .slice a2 (l.length + x.size) c2, ?_, ?_, ?_⟩, ?_⟩
  · simp only [World.setCell, Array.getElem?_modify, if_true, hb2.out]
    rfl
  · rw [hll]
    exact row_keep hoH.out (fun g hg => Below.heap_setCell _ _ _ _ (fun e => row_ne hb2.out (by decide) hoH.out (by rw [hg, e])))
  · exact fun e => row_ne hb2.out (by decide) hoH.out e.symm
  · exact ((hb1H.out.grown hgH.out (by omega) (fun q e => (hownH.out.lt q e).1))).setCell (p := ⟨b, 1, none⟩) hB _
end Go.Proofs.YtnhbcmhinhncfaaGreatDoor
