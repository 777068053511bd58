/- take of a word's reader, whatever it holds. No condition. -/
import Derived.Test.YtgpkhpheomaiaaaRdC
namespace Go.Proofs.Ytgpkhpheomaiaaa
open Go.RowKit Go.PlainAid
attribute [local go_sem] Oper.semAt_some

theorem info5 : (Try.prog.info? 5).map (fun i => (i.zero, i.size, i.bytes)) = some (some (.int .u8 0), 1, 1) := by kernel_rfl
theorem und9 : Try.prog.underlying 9 = some .string := by kernel_rfl

/-- A string's bytes behind a row of one's own: where the new row lies. -/
theorem run_str (W : World) {n₀ n c1 : Nat} {a1 : Option Addr} {xs : List Value} (ty : TypeId) (hown : W.ownsRow n₀ 5 1 (.slice a1 n c1) n xs) (s : ByteArray) (hb : n + s.size ≤ 1000000) (hn : n₀ ≤ W.heap.size) :
    ∃ a2 c2 w2, (Builtin.append_ #[44, 9] ty #[.slice a1 n c1, .string s]).run Try.prog W = .ok (.slice a2 (n + s.size) c2) w2 ∧ w2.ownsRow n₀ 5 1 (.slice a2 (n + s.size) c2) (n + s.size) (xs ++ Lib.strCells s) ∧ W.grownBy w2 (Value.ownBlock (.slice a1 n c1)) ∧
      (Value.ownBlock (.slice a2 (n + s.size) c2) = Value.ownBlock (.slice a1 n c1) ∨ Value.ownBlock (.slice a2 (n + s.size) c2) = none ∨ Value.ownBlock (.slice a2 (n + s.size) c2) = some W.heap.size) := by
  obtain ⟨i0, hi0, hz0, hz1, hz2⟩ := info_parts info5
  obtain ⟨v, w2, hr, h2, h3, h4⟩ := Lib.run_append_own_string (P := Try.prog) W n₀ 44 9 ty 5 i0 Try.underlying44 und9 hi0 hz0 hz1 hz2 _ n xs hown s (by unfold maxLen; omega) (by omega) hn
  rcases h2.2 with ⟨rfl, hx⟩ | ⟨g, cap, cur, rfl, _⟩
  · have h0' : n + s.size = 0 := hx
    rw [h0'] at h2 ⊢
    exact ⟨none, 0, w2, hr, h2, h3, .inr (.inl rfl)⟩
  · refine ⟨some ⟨g, 0, none⟩, cap, w2, hr, h2, h3, ?_⟩
    rcases hown.2 with ⟨e, hx⟩ | ⟨g1, cap1, cur1, e, _, hg, hc1, hc2, hc3, hc4⟩
    · obtain ⟨rfl, rfl, rfl⟩ : a1 = none ∧ n = 0 ∧ c1 = 0 := by simpa using e
      by_cases hm : s.size = 0
      · have := h4.2 ⟨rfl, hm⟩
        cases this
      · have hr2 := run_append_nil_string (P := Try.prog) W 44 9 ty 5 i0 (.int .u8 0) Try.underlying44 und9 hi0 hz0 s (by omega) (by omega) (by rw [hz2]; omega)
        rw [hr] at hr2
        injection hr2 with e1 e2
        right; right
        injection e1 with e1
        rw [e1]
        rfl
    · obtain ⟨rfl, rfl⟩ : a1 = some ⟨g1, 0, none⟩ ∧ c1 = cap1 := by simpa using e
      by_cases hroom : n + s.size ≤ c1
      · have hr2 := Lib.run_append_room_string (P := Try.prog) W 44 9 ty 5 i0 Try.underlying44 und9 hi0 hz1 g1 n c1 cur1 hg s hroom (by omega)
        rw [hr] at hr2
        injection hr2 with e1 e2
        left
        injection e1 with e1
        rw [e1]
        rfl
      · have hxl : xs.length = n := by simpa using hown.1
        have hr2 := Lib.run_append_grow_string (P := Try.prog) W 44 9 ty 5 i0 (.int .u8 0) Try.underlying44 und9 hi0 hz0 ⟨g1, 0, none⟩ n c1 xs (by rw [hz1]; simpa using hxl) (hown.cells (g := g1) rfl) s (by omega) (by omega) (by rw [hz2]; exact growslice_fits (by omega) (by omega))
        rw [hr] at hr2
        injection hr2 with e1 e2
        right; right
        injection e1 with e1
        rw [e1]
        rfl

theorem wpList_str {ops : Array Oper} {rest : List Oper} {o : Oper} {a : Act} {W : World} {Q : Exit → Act → World → Prop} {n₀ n c1 : Nat} {a1 : Option Addr} {xs : List Value} (hgd : o.guard = none) (sl x : Operand)
    (ho : o.op = .call { callee := .builtin .append, args := #[sl, x], argTypes := #[44, 9] }) (hs : a.eval sl = .slice a1 n c1) (s : ByteArray) (hx : a.eval x = .string s)
    (hown : W.ownsRow n₀ 5 1 (.slice a1 n c1) n xs) (hb : n + s.size ≤ 1000000) (hn : n₀ ≤ W.heap.size)
    (h : ∀ a2 c2 w2, w2.ownsRow n₀ 5 1 (.slice a2 (n + s.size) c2) (n + s.size) (xs ++ Lib.strCells s) → W.grownBy w2 (Value.ownBlock (.slice a1 n c1)) →
      (Value.ownBlock (.slice a2 (n + s.size) c2) = Value.ownBlock (.slice a1 n c1) ∨ Value.ownBlock (.slice a2 (n + s.size) c2) = none ∨ Value.ownBlock (.slice a2 (n + s.size) c2) = some W.heap.size) → wpList Try.prog ops Q rest (a.put o.dst (.slice a2 (n + s.size) c2)) w2) : wpList Try.prog ops Q (o :: rest) a W := by
  refine wpList_plain hgd fun K hK => ?_
  obtain ⟨a2, c2, w2, hr, h2, h3, h4⟩ := run_str W o.type hown s hb hn
  unfold Oper.wp execOp
  simp only [ho, resolve, invoke, builtin, Sem.run_bind, Sem.run_pure, Result.andThen_ok, List.map_toArray, List.map_cons, List.map_nil, hs, hx, hr]
  exact hK _ _ (h a2 c2 w2 h2 h3 h4)

section
variable {w : World} {b n₀ : Nat} {t : ByteArray} {k d : Int} {D : Nat} {st : St} {O : Nat → Prop}

/-- What a take's walk wants to know. -/
theorem take_facts (h : Rd w b n₀ t k d D st O) (x : ByteArray) (q : Bool) : ∃ (a1 : Option Addr) (c1 : Nat), w.cell? ⟨b, 4, none⟩ = some (.slice a1 st.bytes.length c1) ∧ w.cell? ⟨b, 5, none⟩ = some (.bool st.q) ∧ w.cell? ⟨b, 6, none⟩ = some (.bool st.o) ∧
    w.frozen? ⟨b, 4, none⟩ = false ∧ w.frozen? ⟨b, 5, none⟩ = false ∧ w.frozen? ⟨b, 6, none⟩ = false ∧ b < w.heap.size ∧ n₀ ≤ w.heap.size ∧
    Hid (((w.setCell ⟨b, 6, none⟩ (.bool true)).setCell ⟨b, 5, none⟩ (.bool q)).ownsRow n₀ 5 1 (.slice a1 st.bytes.length c1) st.bytes.length (Lib.byteCells st.bytes)) ∧
    Hid (∀ w2, ((w.setCell ⟨b, 6, none⟩ (.bool true)).setCell ⟨b, 5, none⟩ (.bool q)).grownBy w2 (Value.ownBlock (.slice a1 st.bytes.length c1)) → w2.cell? ⟨b, 4, none⟩ = some (.slice a1 st.bytes.length c1) ∧ w2.frozen? ⟨b, 4, none⟩ = false) ∧
    Hid (∀ w2 a2 c2, w2.ownsRow n₀ 5 1 (.slice a2 (st.bytes.length + x.size) c2) (st.bytes.length + x.size) (Lib.byteCells st.bytes ++ Lib.strCells x) → ((w.setCell ⟨b, 6, none⟩ (.bool true)).setCell ⟨b, 5, none⟩ (.bool q)).grownBy w2 (Value.ownBlock (.slice a1 st.bytes.length c1)) →
      (Value.ownBlock (.slice a2 (st.bytes.length + x.size) c2) = Value.ownBlock (.slice a1 st.bytes.length c1) ∨ Value.ownBlock (.slice a2 (st.bytes.length + x.size) c2) = none ∨ Value.ownBlock (.slice a2 (st.bytes.length + x.size) c2) = some ((w.setCell ⟨b, 6, none⟩ (.bool true)).setCell ⟨b, 5, none⟩ (.bool q)).heap.size) →
      RdPost w b n₀ t k d D O (st.add x q) (w2.setCell ⟨b, 4, none⟩ (.slice a2 (st.bytes.length + x.size) c2))) := by
  have hn := h.size
  obtain ⟨T, pts, a0, c0, a1, c1, hB, hr, hy, hl, hp, hT, ⟨o1, o2, o3, o4⟩, hq9⟩ := h
  have hyo : some b ≠ Value.ownBlock (.slice a1 st.bytes.length c1) := row_off hB (by decide) hy
  have hro : ∀ g, Value.ownBlock (.slice a0 pts.length c0) = some g → some g ≠ Value.ownBlock (.slice a1 st.bytes.length c1) := fun g hg => row_row (by decide) hr hy hg
  refine ⟨a1, c1, hB.cell 4, hB.cell 5, hB.cell 6, hB.frozen 4, hB.frozen 5, hB.frozen 6, hB.lt, hn, Lib.hid (row_keep hy (fun g hg => ?_)), Lib.hid (fun w2 hg2 => ?_), Lib.hid (fun w2 a2 c2 hy2 hg2 hat2 => take_fin hB hr hl hp hT o1 o2 o3 o4 (.inl rfl) rfl rfl (by rw [Lib.byteCells_append]; exact hy2) hg2 hat2 hyo hro)⟩
  · have hne : g ≠ b := fun h => hyo (by rw [hg, h])
    exact (Below.heap_setCell _ _ _ _ hne).trans (Below.heap_setCell _ _ _ _ hne)
  · have hB2 : Blk w2 b _ _ := (hg2.block b (by simpa using hB.lt) hyo).trans ((hB.set_ 6 _).set_ 5 _)
    exact ⟨hB2.cell 4, hB2.frozen 4⟩

set_option maxHeartbeats 2000000 in
theorem take_same (h : Rd w b n₀ t k d D st O) (x : ByteArray) (q : Bool) (hq : (st.o && st.q != q) = false) (hb : st.bytes.length + x.size ≤ 1000000) :
    Calls Try.prog 35 #[.pointer (some ⟨b, 0, none⟩), .string x, .bool q] w fun e w' => e = .returned (.tuple #[]) ∧ RdPost w b n₀ t k d D O (st.add x q) w' := by
  obtain ⟨a1, c1, e4, e5, e6, f4, f5, f6, hb1, hn, hy, hu, fin⟩ := take_facts h x q
  clear h
  cases ho : st.o <;> cases hs : st.q <;> cases hqq : q
  all_goals (try (rw [ho, hs, hqq] at hq; exact absurd hq (by decide)))
  all_goals
    rw [ho] at e6
    rw [hs] at e5
    subst hqq
    clear hq
    go_enter Try.func35, Try.ntmps35
    go_wp2_with (at_builtin; refine wpList_str (by rfl) _ _ (by rfl) (by rfl) x (by rfl) hy.out hb (by simpa using hn) ?_; intro a2 c2 w2 hy2 hg2 hat2; obtain ⟨u4, v4⟩ := hu.out w2 hg2)
    go_end0
    exact ⟨rfl, fin.out w2 a2 c2 hy2 hg2 hat2⟩

set_option maxHeartbeats 2000000 in
theorem take_turn (h : Rd w b n₀ t k d D st O) (x : ByteArray) (q : Bool) (hq : (st.o && st.q != q) = true) (hlen : st.ps.length < 100000) (hb : x.size ≤ 1000000) :
    Calls Try.prog 35 #[.pointer (some ⟨b, 0, none⟩), .string x, .bool q] w fun e w' => e = .returned (.tuple #[]) ∧ RdPost w b n₀ t k d D O (st.close.add x q) w' := by
  obtain ⟨a9, c9, _, e5, e6, _⟩ := take_facts h x q
  have hH := Lib.hid h
  clear h
  obtain ⟨st1, hst⟩ : ∃ s, st.close = s := ⟨_, rfl⟩
  have hz : st1.bytes.length = 0 := by rw [← hst]; rfl
  have hb0 : st1.bytes.length + x.size ≤ 1000000 := by omega
  have hst1 := Lib.hid hst
  clear hst hz
  rw [hst1.out]
  cases ho : st.o <;> cases hs : st.q <;> cases hqq : q
  all_goals (try (rw [ho, hs, hqq] at hq; exact absurd hq (by decide)))
  all_goals
    rw [ho] at e6
    rw [hs] at e5
    clear hq
    go_enter Try.func35, Try.ntmps35
    go_wp2_with (first
      | (go_at_call 27; refine (close_rd hH.out hlen).mono ?_; rintro e w1 ⟨rfl, O1, hR1, hg1, hF1⟩; rw [hst1.out] at hR1; obtain ⟨a1, c1, e14, e15, e16, f4, f5, f6, hb1, hn, hy, hu, fin⟩ := take_facts hR1 x q; have hfin := Lib.hid (And.intro hg1 hF1); clear hR1 hg1 hF1; rw [hqq] at hy hu fin)
      | (at_builtin; refine wpList_str (by rfl) _ _ (by rfl) (by rfl) x (by rfl) hy.out hb0 (by simpa using hn) ?_; intro a2 c2 w2 hy2 hg2 hat2; obtain ⟨u4, v4⟩ := hu.out w2 hg2))
    go_end0
    exact ⟨rfl, RdPost.trans hfin.out.1 hfin.out.2 (fin.out w2 a2 c2 hy2 hg2 hat2)⟩

theorem take_rd (h : Rd w b n₀ t k d D st O) (x : ByteArray) (q : Bool) (hlen : st.ps.length < 100000) (hb : st.bytes.length + x.size ≤ 1000000) :
    Calls Try.prog 35 #[.pointer (some ⟨b, 0, none⟩), .string x, .bool q] w fun e w' => e = .returned (.tuple #[]) ∧ RdPost w b n₀ t k d D O (st.take x q) w' := by
  cases hq : (st.o && st.q != q)
  · have : st.take x q = st.add x q := by unfold St.take; rw [hq]; rfl
    rw [this]
    exact take_same h x q hq hb
  · have : st.take x q = st.close.add x q := by unfold St.take; rw [hq]; rfl
    rw [this]
    exact take_turn h x q hq hlen (by omega)

theorem isQuoted_rd (h : Rd w b n₀ t k d D st O) : Calls Try.prog 36 #[.pointer (some ⟨b, 0, none⟩)] w fun e w' => e = .returned (.bool (k != 0)) ∧ w' = w := by
  obtain ⟨a0, n0, c0, a1, c1, hB⟩ := h.blk
  exact quoted_any hB
end
end Go.Proofs.Ytgpkhpheomaiaaa
