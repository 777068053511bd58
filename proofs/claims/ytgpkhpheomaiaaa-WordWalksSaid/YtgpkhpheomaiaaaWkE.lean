/- The walk of WordWalks. No condition. -/
import Derived.Test.YtgpkhpheomaiaaaWkD
namespace Go.Proofs.Ytgpkhpheomaiaaa
open Go.RowKit Go.Shelf Go.PlainAid
attribute [local go_sem] Oper.semAt_some

theorem fr_own {β : Type} {b : Nat} {v : Option Nat} {w0 : World} : OwnFrom w0.heap.size (fun (_ : β) W => Fr b v w0 W) := fun _ X Y row hs hg hr =>
  ⟨hg.os.trans hs.os, hg.tape.trans hs.tape, hg.output.trans hs.output, Nat.le_trans hs.size hg.size, fun k h1 h2 h3 =>
    (hg.block k (Nat.lt_of_lt_of_le h1 hs.size) (fun e => by have := (hr k e.symm).1; omega)).trans (hs.block k h1 h2 h3)⟩
theorem fr_drewN {b : Nat} {v : Option Nat} {w w1 : World} (h : Fr b v w w1) (n : Nat) : Fr b v w (w1.drewN n) := ⟨h.os, h.tape, h.output, h.size, h.block⟩
theorem blk_drewN {W : World} {g : Nat} {t : TypeId} {cs : Array Value} (h : Blk W g t cs) (n : Nat) : Blk (W.drewN n) g t cs := h
theorem keepsOthers_drewN (W : World) (n : Nat) : KeepsOthers W (W.drewN n) := ⟨Nat.le_refl _, fun _ _ h _ => h⟩
theorem fr_end {b c : Nat} {w0 W : World} (h : Fr b none w0 W) (u : Value) : Fr b (some c) w0 (W.setCell ⟨c, 0, none⟩ u) :=
  ⟨h.os, h.tape, h.output, by simpa using h.size, fun k h1 h2 h3 => (Below.heap_setCell _ _ _ _ (fun e => h3 (by rw [show k = c from e]))).trans (h.block k h1 h2 (by simp))⟩
theorem keepC_set {S : Nat → Prop} (W : World) (b : Nat) (hb : S b) (u : Value) : KeepC S W (W.setCell ⟨b, 0, none⟩ u) :=
  ⟨by simp, fun g o hg _ hs => (Below.heap_setCell _ _ _ _ (fun e => hs (by rw [show g = b from e]; exact hb))).trans hg⟩
theorem keepC_drewN {S : Nat → Prop} (W : World) (n : Nat) : KeepC S W (W.drewN n) := ⟨Nat.le_refl _, fun _ _ h _ _ => h⟩
theorem fr_below {b n₀ : Nat} {v : Option Nat} {w w' : World} (h : Fr b v w w') (hb : n₀ ≤ b) (hn : n₀ ≤ w.heap.size) (hv : ∀ g, v = some g → n₀ ≤ g) : Below n₀ w w' :=
  ⟨h.os, h.tape, h.output, h.size, fun g hg => h.block g (by omega) (by omega) (fun e => by have := hv g e.symm; omega)⟩
/-- What a round finds. -/
def InvW (b12 : Nat) (w0 : World) (pre : List Pt) (W : World) : Prop := Fr b12 none w0 W ∧ Blk W b12 3 #[.int .i64 pre.length]
/-- What a round that ends it all leaves. -/
def EndW (b12 b4 : Nat) (Y : List PT) (w0 : World) (c : Code) (xs : List Pt) (W : World) : Prop := c = .ret ∧ ∃ v, Fr b12 (some b4) w0 W ∧ Blk W b4 4 #[.bool v] ∧ (v = true ∨ ¬ PM Y xs)
theorem invW_own {b12 : Nat} {w0 : World} : OwnFrom w0.heap.size (InvW b12 w0) := fun _ X Y row hs hg hr =>
  ⟨fr_own (β := Unit) () X Y row hs.1 hg hr, blk_own _ _ _ _ () X Y row hs.2 hg hr⟩
theorem endW_own {b12 b4 : Nat} {Y : List PT} {w0 : World} (c : Code) : OwnFrom w0.heap.size (EndW b12 b4 Y w0 c) := fun xs X Z row hs hg hr => by
  obtain ⟨h0, v, h1, h2, h3⟩ := hs
  exact ⟨h0, v, fr_own (β := Unit) () X Z row h1 hg hr, blk_own _ _ _ _ () X Z row h2 hg hr, h3⟩
theorem ba_eq {a b : ByteArray} (h : (a.toList == b.toList) = true) : a = b := by
  rw [ByteArray.toList_eq, ByteArray.toList_eq] at h
  have h2 := eq_of_beq h
  obtain ⟨⟨x⟩⟩ := a
  obtain ⟨⟨y⟩⟩ := b
  obtain rfl : x = y := h2
  rfl
theorem nb {α : Type} [BEq α] {a b : α} (h : (a == b) = false) : (a != b) = true := by rw [bne, h]; rfl
theorem eb {α : Type} [BEq α] {a b : α} (h : (a == b) = true) : (a != b) = false := by rw [bne, h]; rfl
def SameU (x u : Pt) : Prop := x.kind = u.kind ∧ x.text = u.text ∧ x.op = u.op ∧ x.quoted = u.quoted
theorem pt_ne {t u : Pt} (h : ¬ SameU t u) : (t.kind == u.kind) = false ∨ ((t.kind == u.kind) = true ∧ (t.text.toList == u.text.toList) = false) ∨ ((t.kind == u.kind) = true ∧ (t.text.toList == u.text.toList) = true ∧ (t.op.toList == u.op.toList) = false) ∨
    ((t.kind == u.kind) = true ∧ (t.text.toList == u.text.toList) = true ∧ (t.op.toList == u.op.toList) = true ∧ (t.quoted == u.quoted) = false) := by
  by_cases h1 : (t.kind == u.kind) = true
  · by_cases h2 : (t.text.toList == u.text.toList) = true
    · by_cases h3 : (t.op.toList == u.op.toList) = true
      · refine .inr (.inr (.inr ⟨h1, h2, h3, ?_⟩))
        rw [← Bool.not_eq_true]
        exact fun h5 => h ⟨by simpa using h1, ba_eq h2, ba_eq h3, by simpa using h5⟩
      · exact .inr (.inr (.inl ⟨h1, h2, by simpa using h3⟩))
    · exact .inr (.inl ⟨h1, by simpa using h2⟩)
  · exact .inl (by simpa using h1)
theorem rowP {w : World} {n₀ n c : Nat} {a : Option Addr} {ts : List Pt} (hn : n = ts.length) (h : w.ownsRow n₀ 35 5 (.slice a n c) n (pv ts)) (hp : 0 < n) :
    ∃ g, a = some ⟨g, 0, none⟩ ∧ n₀ ≤ g ∧ g < w.heap.size ∧ ∀ (k : Nat) (t : Pt), ts[k]? = some t → w.cell? ⟨g, k * 5, none⟩ = some (.int .i64 t.kind) ∧ w.cell? ⟨g, k * 5 + 1, none⟩ = some (.string t.text) ∧ w.cell? ⟨g, k * 5 + 2, none⟩ = some (.string t.op) ∧ w.cell? ⟨g, k * 5 + 4, none⟩ = some (.bool t.quoted) := by
  obtain ⟨g, cap, hv, _, _⟩ := h.form hp
  obtain ⟨rfl, rfl⟩ : a = some ⟨g, 0, none⟩ ∧ c = cap := by simpa using hv
  refine ⟨g, rfl, (h.lt g rfl).1, (h.lt g rfl).2, fun k t hk => ?_⟩
  have hk2 := (List.getElem?_eq_some_iff.1 hk).1
  have hc : ∀ j, j < 5 → w.cell? ⟨g, k * 5 + j, none⟩ = t.cells[j]? := fun j hj => by rw [h.cellAt _ (by omega), pv_get ts k j t hk hj]
  exact ⟨hc 0 (by omega), hc 1 (by omega), hc 2 (by omega), hc 4 (by omega)⟩
/-- Whoever stands at the same place of two lists that read alike is the same. -/
theorem pm_same {Y : List PT} {pre pts : List Pt} {x : Pt} (h : PM Y (pre ++ [x])) (hm : Mat pts Y) : ∃ u, pts[pre.length]? = some u ∧ SameU x u := by
  obtain ⟨ps, ⟨t, ht⟩, h1, h2⟩ := h
  have hl : pre.length < ps.length := by rw [← h1]; simp
  have hp : ps[pre.length]? = some ps[pre.length] := List.getElem?_eq_getElem hl
  have hY : Y[pre.length]? = some ps[pre.length] := by rw [← ht, List.getElem?_append_left hl]; exact hp
  have hlt : pre.length < pts.length := by rw [hm.1]; exact (List.getElem?_eq_some_iff.1 hY).1
  have hx := h2 pre.length x _ (by simp) hp
  have hu := hm.2 pre.length _ _ (List.getElem?_eq_getElem hlt) hY
  exact ⟨_, List.getElem?_eq_getElem hlt, hx.1.trans hu.1.symm, hx.2.1.trans hu.2.1.symm, hx.2.2.1.trans hu.2.2.1.symm, hx.2.2.2.trans hu.2.2.2.symm⟩
theorem top_n {s : ByteArray} {k : Int} {l : List PT} (h : topM s k = .ok l) : cntL l ≤ s.size := by
  unfold topM at h
  split at h
  · exact parts_n 24 _ _ _ h
  · cases h
theorem top_q {s : ByteArray} {k : Int} {l : List PT} (hk : k ≠ 0) (h : topM s k = .ok l) : ∀ p ∈ l, p.quoted = true := by
  unfold topM at h
  split at h
  · exact parts_q hk h
  · cases h

set_option maxRecDepth 100000 in
set_option maxHeartbeats 4000000 in
theorem walks_in (s : ByteArray) (kind stop : Int) (w : World) (hs : s.size ≤ maxLen) : CallsIn Fence.wide 6 Try.prog 4 #[.string s, .int .i64 kind, .int .i64 stop] w fun e w' => e = .returned (.bool true) ∧ Below w.heap.size w w' := by
  unfold maxLen at hs
  refine callsIn_of_wp_marks Try.func4 rfl trivial ?_ rfl
  simp only [Try.ntmps4, List.size_toArray, List.length_cons, List.length_nil, Nat.reduceAdd, Nat.reduceSub, Array.replicate_succ, Array.replicate_zero, List.push_toArray, List.append_toArray, List.nil_append, List.cons_append]
  have hawH := Lib.hid (fun w => awake_any w)
  obtain ⟨b3, hb3⟩ : ∃ x, w.heap.size = x := ⟨_, rfl⟩
  obtain ⟨wA, hwA⟩ : ∃ x, (w.alloc (.cells #[.int .i64 stop] 3)).alloc (.cells #[.bool false] 4) = x := ⟨_, rfl⟩
  have hsA : wA.heap.size = b3 + 2 := by rw [← hwA]; simp [hb3]
  have k3 : Blk wA b3 3 #[.int .i64 stop] := by rw [← hwA, ← hb3]; exact (Blk.new _ _ _).alloc _
  have k4 : Blk wA (b3 + 1) 4 #[.bool false] := by
    have x := Blk.new (w.alloc (.cells #[.int .i64 stop] 3)) 4 #[.bool false]
    rw [World.size_alloc, hb3] at x
    rw [← hwA]; exact x
  have hbA : Hid (Below b3 w wA) := Lib.hid (by rw [← hwA]; exact ((Below.refl _ _).alloc (by omega) _).alloc (by simp; omega) _)
  have hwH := Lib.hid hwA
  have h3H := Lib.hid hb3
  clear hwA
  gi_upto_region 1 with fail
  rw [hwH.out]
  gi_upto_region 3 with (refine ⟨trivial, ?_⟩; gi_at_call 6; refine (callsIn_wide.2 (hawH.out _)).mono ?_; rintro e wB ⟨rfl, hbB⟩)
  have hsB := hbB.size
  have n3 : Hid (Blk wB b3 3 #[.int .i64 stop]) := Lib.hid (blk_beneath k3 hbB)
  have n4 : Hid (Blk wB (b3 + 1) 4 #[.bool false]) := Lib.hid (blk_beneath k4 hbB)
  have hbBH : Hid (Below w.heap.size w wB) := Lib.hid (hb3 ▸ hbA.out.trans (below_of hbB (by omega)))
  have y4 : wB.cell? ⟨b3 + 1, 0, none⟩ = some (.bool false) := n4.out.cell 0
  have f4 : wB.frozen? ⟨b3 + 1, 0, none⟩ = false := n4.out.frozen 0
  clear hbB hbA k3 k4 hwH hb3
  by_cases h3 : 3000 < s.size
  · gi_wp2
    have q3 : (wB.setCell ⟨b3 + 1, 0, none⟩ (.bool true)).cell? ⟨b3 + 1, 0, none⟩ = some (.bool true) := (n4.out.set_ 0 _).cell 0
    refine ⟨.bool true, ?_, rfl, hbBH.out.setCell (p := ⟨b3 + 1, 0, none⟩) (by show w.heap.size ≤ b3 + 1; have := h3H.out; omega) _⟩
    simp [results, Try.results4, go_sem, q3]
  · cases hres : topM s kind with
    | error er =>
      have hcb := Lib.hid (pr_bad (Parts_any s kind wB (by omega)) hres)
      gi_wp2_with (refine ⟨trivial, ?_⟩; gi_at_call 9; refine (callsIn_wide.2 hcb.out).mono ?_; rintro e w2 ⟨rfl, her, hb2⟩; have hE := ne_err her; have m4 := Lib.hid (blk_beneath n4.out hb2); have z4 : w2.cell? ⟨b3 + 1, 0, none⟩ = some (.bool false) := m4.out.cell 0; have g4 : w2.frozen? ⟨b3 + 1, 0, none⟩ = false := m4.out.frozen 0; have hb2H := Lib.hid hb2; clear her hb2)
      have q3 : (w2.setCell ⟨b3 + 1, 0, none⟩ (.bool true)).cell? ⟨b3 + 1, 0, none⟩ = some (.bool true) := (m4.out.set_ 0 _).cell 0
      refine ⟨.bool true, ?_, rfl, (hbBH.out.trans (below_of hb2H.out hbBH.out.size)).setCell (p := ⟨b3 + 1, 0, none⟩) (by show w.heap.size ≤ b3 + 1; have := h3H.out; omega) _⟩
      simp [results, Try.results4, go_sem, q3]
    | ok l =>
      have hcg := Lib.hid (pr_good (Parts_any s kind wB (by omega)) hres)
      have hcn : cntL l ≤ 3000 := by have := top_n hres; omega
      have hqq : Hid (kind ≠ 0 → ∀ p ∈ l, p.quoted = true) := Lib.hid (fun hk => top_q hk hres)
      clear hres
      gi_upto_region 8 with (refine ⟨trivial, ?_⟩; gi_at_call 9; refine (callsIn_wide.2 hcg.out).mono ?_; rintro e w2 ⟨a, c, T, rfl, hW, hT, hb2⟩; have m4 := Lib.hid (blk_beneath n4.out hb2); have m3 := Lib.hid (blk_beneath n3.out hb2); have hb2H := Lib.hid hb2; have hWH := Lib.hid hW; have hTH := Lib.hid hT; clear hb2 hW hT)
      have hs2 := hb2H.out.size
      have hrw := Lib.hid (refwalk_any 25 a l.length c l T w2 rfl hWH.out (fun g hg => (hTH.out g hg).2) (by omega))
      have hsB2 := hbBH.out.size
      gi_upto_region 10 with (refine ⟨trivial, ?_⟩; gi_at_call 10; refine (callsIn_wide.2 hrw.out).mono ?_; rintro e w3 ⟨a3, c3, pts, rfl, hM, hrow, hb3⟩)
      have hs3 := hb3.size
      have hm4 := m4.out.lt
      have hm3 := m3.out.lt
      have hB4 := n4.out.lt
      obtain ⟨b9, hb9⟩ : ∃ x, w3.heap.size = x := ⟨_, rfl⟩
      obtain ⟨W0, hW0⟩ : ∃ x, ((w3.alloc (.cells #[.slice a3 pts.length c3] 26)).alloc (.cells #[.int .i64 0] 3)).alloc (.cells #[.slice a l.length c] 26) = x := ⟨_, rfl⟩
      have hb0 : Below w3.heap.size w3 W0 := by rw [← hW0]; exact ((alB _ _).alloc (by simp) _).alloc (by simp; omega) _
      have hs0 : W0.heap.size = b9 + 3 := by rw [← hW0]; simp [hb9]
      have k9 : Hid (Blk W0 b9 26 #[.slice a3 pts.length c3]) := Lib.hid (by rw [← hW0, ← hb9]; exact ((Blk.new _ _ _).alloc _).alloc _)
      have k10 : Hid (Blk W0 (b9 + 1) 3 #[.int .i64 0]) := Lib.hid (by rw [← hW0]; exact (newB _ _ _ (by simp [hb9])).alloc _)
      have kL : Hid (Blk W0 (b9 + 2) 26 #[.slice a l.length c]) := Lib.hid (by rw [← hW0]; exact newB _ _ _ (by simp [hb9]))
      have k3 : Hid (Blk W0 b3 3 #[.int .i64 stop]) := Lib.hid (blk_beneath (blk_beneath m3.out hb3) hb0)
      have k4 : Hid (Blk W0 (b3 + 1) 4 #[.bool false]) := Lib.hid (blk_beneath (blk_beneath m4.out hb3) hb0)
      have hrow0 := Lib.hid (row_beneath hrow hb0)
      have hWA0 : Hid (WAt W0 T 25 (.slice a l.length c) l) := Lib.hid (WAt_mono (fun _ h => h) (fun g hg => (hb0.block g (Nat.lt_of_lt_of_le (hTH.out g hg).2 hs3)).trans (hb3.block g (hTH.out g hg).2)) _ _ _ hWH.out)
      have hTS : Hid (∀ g, T g → g < W0.heap.size ∧ ¬ (g = b9 + 1 ∨ g = b3 + 1)) := Lib.hid (fun g hg => by have := hTH.out g hg; omega)
      have hbel : Hid (Below w.heap.size w W0) := Lib.hid ((hbBH.out.trans (below_of hb2H.out hsB2)).trans ((below_of hb3 (by omega)).trans (below_of hb0 (by omega))))
      have hMH := Lib.hid hM
      have hW0H := Lib.hid hW0
      obtain ⟨m, hm⟩ : ∃ m, pts.length = m := ⟨_, rfl⟩
      have hmH := Lib.hid hm
      have hmc : Hid (m = cntL l) := Lib.hid (by rw [← hm, hM.1, flatL_len])
      have hm9 : m ≤ 3000 := by rw [hmc.out]; exact hcn
      clear hb3 hrow hM hb0 hW0 hrw hcg hWH hTH hm m3 m4 n3 n4
      gi_wp2_with (refine ⟨trivial, ?_⟩; gi_at_call 11; refine (callsIn_wide.2 (Walk_any a l.length c _)).mono ?_; rintro e w7 ⟨rfl, rfl⟩)
      rw [hW0H.out]
      have hKb : ∀ (W : World) (l : Nat) (o o' : Obj), W0.heap.size ≤ l → W.heap[l]? = some o → o.isCells = false → o.isWalk = false → KeepC (fun g => g = b9 + 1 ∨ g = b3 + 1) W (W.putObj l o') := fun W l o o' _ h h1 _ => keepC_put W l o o' h h1
      have hKa : ∀ (W : World) (o : Obj), KeepC (fun g => g = b9 + 1 ∨ g = b3 + 1) W (W.alloc o) := fun W o => keepC_of (alB W o)
      apply wpIn_range_boxed (n := 6) rfl (by omega) (gf := 17) (lb := #[.pointer (some ⟨b9 + 2, 0, none⟩)]) rfl trivial (enters_of Try.func17 (by kernel_rfl) rfl)
        (walk_stops 25 5 (by omega) (b9 + 2) W0.heap.size (cntL l) (fun g => g = b9 + 1 ∨ g = b3 + 1) a l.length c l T W0 kL.out (fun g hg => by omega) hWA0.out hTS.out (Nat.le_refl _) (Nat.le_refl _) (by omega)) (fun h k => h.trans k) hKb hKa (fun _ => rfl)
        (InvW (b9 + 1) W0) (EndW (b9 + 1) (b3 + 1) (flatL l) W0) invW_own endW_own (fun p W h => h.1.size) ⟨Fr.refl _ _ _, k10.out⟩ 35 (fun x => #[.int .i64 x.kind, .string x.text, .string x.op, .slice x.wa x.wn x.wc, .bool x.quoted]) ?_ ?assign ?body ?done ?stop
      case assign =>
        intro l q x W K hq hK
        dsimp only [encP]
        gi_wp2
        exact hK
      case body =>
        intro l2 q pre x W hI hq hbx hlen
        obtain ⟨hF, hN⟩ := hI
        obtain ⟨k, hk⟩ : ∃ k, pre.length = k := ⟨_, rfl⟩
        have keep : ∀ {g : Nat} {ty : TypeId} {cs : Array Value}, Blk W0 g ty cs → g ≠ b9 + 1 → Blk W g ty cs := fun hb hne => (hF.block _ hb.lt hne (by simp)).trans hb
        have hrow : W.ownsRow w2.heap.size 35 5 (.slice a3 m c3) m (pv pts) := by
          have h9 := row_keep hrow0.out (fun g hg => hF.block g (row_lt hrow0.out hg) (fun e => row_off k10.out (by decide) hrow0.out (by rw [hg, e])) (by simp))
          rw [hmH.out] at h9
          exact h9
        have k4W := keep k4.out (by omega)
        have y3 : W.cell? ⟨b3, 0, none⟩ = some (.int .i64 stop) := (keep k3.out (by omega)).cell 0
        have y4 : W.cell? ⟨b3 + 1, 0, none⟩ = some (.bool false) := k4W.cell 0
        have f4 : W.frozen? ⟨b3 + 1, 0, none⟩ = false := k4W.frozen 0
        have y9 : W.cell? ⟨b9, 0, none⟩ = some (.slice a3 m c3) := by rw [(keep k9.out (by omega)).cell, hmH.out]; rfl
        have y10 : W.cell? ⟨b9 + 1, 0, none⟩ = some (.int .i64 k) := by rw [hN.cell, hk]; rfl
        have f10 : W.frozen? ⟨b9 + 1, 0, none⟩ = false := hN.frozen 0
        have q0 : W.cell? ⟨q, 0, none⟩ = some (.int .i64 x.kind) := hbx.cell 0
        have q1 : W.cell? ⟨q, 1, none⟩ = some (.string x.text) := hbx.cell 1
        have q2 : W.cell? ⟨q, 2, none⟩ = some (.string x.op) := hbx.cell 2
        have q4 : W.cell? ⟨q, 4, none⟩ = some (.bool x.quoted) := hbx.cell 4
        have hnp : (∀ u, pts[k]? = some u → ¬ SameU x u) → ¬ PM (flatL l) (pre ++ [x]) := fun h hp => by
          obtain ⟨u, h1, h2⟩ := pm_same hp hMH.out
          rw [hk] at h1
          exact h u h1 h2
        have hk1 : Hid ((pre ++ [x]).length = k + 1) := Lib.hid (by simp [hk])
        have hk64 : k ≤ 3000 := by omega
        have hFH := Lib.hid hF
        have k4H := Lib.hid k4W
        have k12H := Lib.hid hN
        have hrowH := Lib.hid hrow
        clear hF hN k4W keep hrow hbx hk hlen
        by_cases hkn : k < m
        · obtain ⟨u, hu⟩ : ∃ u, pts[k]? = some u := ⟨pts[k]'(by have := hmH.out; omega), List.getElem?_eq_getElem _⟩
          obtain ⟨gr, rfl, hg0, hg1, hcell⟩ := rowP hmH.out.symm hrowH.out (by omega)
          obtain ⟨v0, v1, v2, v4⟩ := hcell k u hu
          have c1 : ¬ m ≤ k := by omega
          have c2 : decide (m ≤ k) = false := decide_eq_false c1
          by_cases htu : SameU x u
          · obtain ⟨xk, xt, xo, xa, xn, xc, xq⟩ := x
            obtain ⟨uk, ut, uo, ua, un, uc, uq⟩ := u
            obtain ⟨e1, e2, e3, e4⟩ := htu
            dsimp only at e1 e2 e3 e4
            subst e1 e2 e3 e4
            dsimp only at q0 q1 q2 q4 v0 v1 v2 v4 ⊢
            clear hcell hu hnp
            gi_upto_region 13 with fail
            refine wpIn_region_quiet_round rfl (by kernel_rfl) (by kernel_rfl) (by kernel_rfl) ?_
            repeat (gi_big_quiet_step (fail))
            refine wpQuietIn_nil ?_
            intro _ hw'
            obtain ⟨nq, hw''⟩ := hw'
            subst hw''
            cases hst : ((k : Int) + 1 == stop)
            · gi_wp2
              exact ⟨((keepsOthers_drewN W _).trans (KeepsOthers.setCell _ _ _)).from _, (keepC_drewN W _).trans (keepC_set _ _ (.inl rfl) _), (fr_drewN hFH.out _).set_ _, by rw [hk1.out]; exact (blk_drewN k12H.out _).set_ 0 _⟩
            · gi_wp2
              exact ⟨((keepsOthers_drewN W _).trans ((KeepsOthers.setCell _ _ _).trans (KeepsOthers.setCell _ _ _))).from _, rfl, true, fr_end ((fr_drewN hFH.out _).set_ _) _, ((blk_drewN k4H.out _).far (by show b3 + 1 ≠ b9 + 1; omega) _).set_ 0 _, .inl rfl⟩
          · have hno : Hid (¬ PM (flatL l) (pre ++ [x])) := Lib.hid (hnp (fun u2 h1 h2 => by rw [hu] at h1; cases h1; exact htu h2))
            clear hnp hcell hu
            rcases pt_ne htu with d1 | ⟨d1, d2⟩ | ⟨d1, d2, d3⟩ | ⟨d1, d2, d3, d4⟩
            · have f1 := nb d1
              clear htu
              gi_upto_region 13 with fail
              refine wpIn_region_quiet_round rfl (by kernel_rfl) (by kernel_rfl) (by kernel_rfl) ?_
              repeat (gi_big_quiet_step (fail))
              refine wpQuietIn_nil ?_
              intro _ hw'
              obtain ⟨nq, hw''⟩ := hw'
              subst hw''
              gi_wp2
              exact ⟨((keepsOthers_drewN W _).trans (KeepsOthers.setCell _ _ _)).from _, rfl, false, fr_end (fr_drewN hFH.out _) _, (blk_drewN k4H.out _).set_ 0 _, .inr hno.out⟩
            · have f1 := eb d1
              have f2 := nb d2
              clear htu
              gi_upto_region 13 with fail
              refine wpIn_region_quiet_round rfl (by kernel_rfl) (by kernel_rfl) (by kernel_rfl) ?_
              repeat (gi_big_quiet_step (fail))
              refine wpQuietIn_nil ?_
              intro _ hw'
              obtain ⟨nq, hw''⟩ := hw'
              subst hw''
              gi_wp2
              exact ⟨((keepsOthers_drewN W _).trans (KeepsOthers.setCell _ _ _)).from _, rfl, false, fr_end (fr_drewN hFH.out _) _, (blk_drewN k4H.out _).set_ 0 _, .inr hno.out⟩
            · have f1 := eb d1
              have f2 := eb d2
              have f3 := nb d3
              clear htu
              gi_upto_region 13 with fail
              refine wpIn_region_quiet_round rfl (by kernel_rfl) (by kernel_rfl) (by kernel_rfl) ?_
              repeat (gi_big_quiet_step (fail))
              refine wpQuietIn_nil ?_
              intro _ hw'
              obtain ⟨nq, hw''⟩ := hw'
              subst hw''
              gi_wp2
              exact ⟨((keepsOthers_drewN W _).trans (KeepsOthers.setCell _ _ _)).from _, rfl, false, fr_end (fr_drewN hFH.out _) _, (blk_drewN k4H.out _).set_ 0 _, .inr hno.out⟩
            · have f1 := eb d1
              have f2 := eb d2
              have f3 := eb d3
              have f4 := nb d4
              clear htu
              gi_upto_region 13 with fail
              refine wpIn_region_quiet_round rfl (by kernel_rfl) (by kernel_rfl) (by kernel_rfl) ?_
              repeat (gi_big_quiet_step (fail))
              refine wpQuietIn_nil ?_
              intro _ hw'
              obtain ⟨nq, hw''⟩ := hw'
              subst hw''
              gi_wp2
              exact ⟨((keepsOthers_drewN W _).trans (KeepsOthers.setCell _ _ _)).from _, rfl, false, fr_end (fr_drewN hFH.out _) _, (blk_drewN k4H.out _).set_ 0 _, .inr hno.out⟩
        · have hno : Hid (¬ PM (flatL l) (pre ++ [x])) := Lib.hid (hnp (fun u h1 _ => by
            have h9 := (List.getElem?_eq_some_iff.1 h1).1
            have := hmH.out
            omega))
          have c1 : m ≤ k := by omega
          have c2 : decide (m ≤ k) = true := decide_eq_true c1
          clear hkn hnp
          gi_upto_region 13 with fail
          refine wpIn_region_quiet_round rfl (by kernel_rfl) (by kernel_rfl) (by kernel_rfl) ?_
          repeat (gi_big_quiet_step (fail))
          refine wpQuietIn_nil ?_
          intro _ hw'
          obtain ⟨nq, hw''⟩ := hw'
          subst hw''
          gi_wp2
          exact ⟨((keepsOthers_drewN W _).trans (KeepsOthers.setCell _ _ _)).from _, rfl, false, fr_end (fr_drewN hFH.out _) _, (blk_drewN k4H.out _).set_ 0 _, .inr hno.out⟩
      case done =>
        rintro D xs W hD hS ⟨hF, hN⟩ hK
        have hxl : xs.length = m := by rw [hS.1, flatL_len, hmc.out]
        have keep : ∀ {g : Nat} {ty : TypeId} {cs : Array Value}, Blk W0 g ty cs → g ≠ b9 + 1 → Blk W g ty cs := fun hb hne => (hF.block _ hb.lt hne (by simp)).trans hb
        have k4W := Lib.hid (keep k4.out (by omega))
        have k9W := Lib.hid (keep k9.out (by omega))
        have k10W : Hid (Blk W (b9 + 1) 3 #[.int .i64 m]) := Lib.hid (by rw [← hxl]; exact hN)
        have hKH := Lib.hid hK
        have hWA : Hid (WAt W T 25 (.slice a l.length c) l) := Lib.hid (WAt_mono (fun _ h => h) (fun g hg => hF.block g (hTS.out g hg).1 (fun e => (hTS.out g hg).2 (.inl e)) (by simp)) _ _ _ hWA0.out)
        have hTW : Hid (∀ g, T g → g < W.heap.size) := Lib.hid (fun g hg => by have := hTS.out g hg; have := hF.size; omega)
        have hbH : Hid (Below w.heap.size w W) := Lib.hid (hbel.out.trans (fr_below hF (by omega) hbel.out.size (fun g hg => by cases hg)))
        obtain ⟨n, hn⟩ : ∃ n, l.length = n := ⟨_, rfl⟩
        have hnH := Lib.hid hn
        have hn9 : n ≤ 3000 := by have := len_cnt l; omega
        rw [hn]
        clear hF hN keep hxl hK hn hS
        gi_wp2
        gi_loopw [86] (fun s86 wr => ∃ i : Nat, i ≤ n ∧ s86 = .int .i64 i ∧ Hid (Below W.heap.size W wr)) (fun s86 _ => n - (intOf s86).toNat)
        case atStart => exact ⟨0, Nat.zero_le _, by go_num, Lib.hid (Below.refl _ _)⟩
        case round =>
          obtain ⟨i, hi, rfl, hb⟩ := hrel
          by_cases hlt : i < n
          · have hWr := WAt_mono (fun _ h => h) (fun g hg => hb.out.block g (hTW.out g hg)) _ _ _ hWA.out
            obtain ⟨g, x, p, rfl, hTg, hp, hx, c0, c1, c2, c3, c4⟩ := part_at hWr (by rw [hnH.out]; exact hlt)
            have hqx : Hid (kind ≠ 0 → x.quoted = true) := Lib.hid (fun hk => by rw [hx.2.2.2.1]; exact hqq.out hk p (List.mem_of_getElem? hp))
            clear hWr hp hx
            by_cases hk0 : kind = 0
            · have d0 : (kind != 0) = false := by rw [hk0]; rfl
              clear hk0
              gi_wp2
              go_roundw
              case rel => exact ⟨i + 1, by omega, by go_num, Lib.hid (hb.out.alloc hb.out.size _)⟩
              case measure => simp [intOf]; omega
            · have d0 : (kind != 0) = true := by simpa using hk0
              rw [hqx.out hk0] at c4
              clear hk0
              gi_wp2
              go_roundw
              case rel => exact ⟨i + 1, by omega, by go_num, Lib.hid (hb.out.alloc hb.out.size _)⟩
              case measure => simp [intOf]; omega
          · obtain rfl : i = n := by omega
            have k4r := Lib.hid (blk_beneath k4W.out hb.out)
            have y4 : wr.cell? ⟨b3 + 1, 0, none⟩ = some (.bool false) := k4r.out.cell 0
            have f4 : wr.frozen? ⟨b3 + 1, 0, none⟩ = false := k4r.out.frozen 0
            have y9 : wr.cell? ⟨b9, 0, none⟩ = some (.slice a3 m c3) := by rw [(blk_beneath k9W.out hb.out).cell, hmH.out]; rfl
            have y10 : wr.cell? ⟨b9 + 1, 0, none⟩ = some (.int .i64 m) := (blk_beneath k10W.out hb.out).cell 0
            have hKr : Hid (wr.heap[D]? = some (.deferred (some []))) := Lib.hid ((hb.out.block D (Array.getElem?_eq_some_iff.1 hKH.out).1).trans hKH.out)
            gi_wp2
            have k5 := (KeepsOthers.setCell wr ⟨b3 + 1, 0, none⟩ (.bool true)).same D _ hKr.out rfl
            have z2 : Blk ((wr.setCell ⟨b3 + 1, 0, none⟩ (.bool true)).putObj D (.deferred none)) (b3 + 1) 4 #[.bool true] := (World.putObj_heap_other (by omega)).trans (k4r.out.set_ 0 _)
            have q3 : ((wr.setCell ⟨b3 + 1, 0, none⟩ (.bool true)).putObj D (.deferred none)).cell? ⟨b3 + 1, 0, none⟩ = some (.bool true) := z2.cell 0
            refine ⟨by simp, .inl ⟨_, _, rfl, run_takeDeferred k5, ?_⟩⟩
            refine ⟨.bool true, ?_, ?_⟩
            · simp [results, Try.results4, go_sem, q3]
            · exact ⟨rfl, ((hbH.out.trans (below_of hb.out hbH.out.size)).setCell (p := ⟨b3 + 1, 0, none⟩) (by show w.heap.size ≤ b3 + 1; have := h3H.out; omega) _).trans (belowK_b (w := w) (Nat.le_refl _) _ D _ _ (by have := h3H.out; omega) k5 rfl rfl)⟩
      case stop =>
        rintro D c2 pre W hD hpre ⟨rfl, v, hF, k4W, hv⟩ hK
        obtain rfl : v = true := by
          rcases hv with h | h
          · exact h
          · exact absurd hpre h
        have z2 : Blk (W.putObj D (.deferred none)) (b3 + 1) 4 #[.bool true] := (World.putObj_heap_other (by omega)).trans k4W
        have q3 : (W.putObj D (.deferred none)).cell? ⟨b3 + 1, 0, none⟩ = some (.bool true) := z2.cell 0
        have hKH := Lib.hid hK
        have hbH : Hid (Below w.heap.size w W) := Lib.hid (hbel.out.trans (fr_below hF (by omega) hbel.out.size (fun g hg => by cases hg; have := h3H.out; omega)))
        clear hF k4W hK hv hpre z2
        gi_wp2
        refine ⟨by simp, .inl ⟨_, _, rfl, run_takeDeferred hKH.out, ?_⟩⟩
        refine ⟨.bool true, ?_, ?_⟩
        · simp [results, Try.results4, go_sem, q3]
        · exact ⟨rfl, hbH.out.trans (belowK_b (w := w) (Nat.le_refl _) _ D _ _ (by have := h3H.out; omega) hKH.out rfl rfl)⟩
theorem walks_law (s : ByteArray) (kind stop : Int) (w : World) (hs : s.size ≤ maxLen) : Calls Try.prog 4 #[.string s, .int .i64 kind, .int .i64 stop] w fun e w' => e = .returned (.bool true) ∧ Below w.heap.size w w' := callsIn_wide.1 (walks_in s kind stop w hs)
end Go.Proofs.Ytgpkhpheomaiaaa
