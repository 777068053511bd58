/- The worker over numbers: what reads and moves: peek, is, next, fail, need, works. Condition: it lies as stated. -/
import Derived.Test.YtjbmpockoicgmaaGreatArL
import Derived.Test.YtjbmpockoicgmaaGreatArN
import Derived.Laws.Rows
namespace Go.Proofs.YtjbmpockoicgmaaGreat.I
open Go.RowKit Go.Shelf Go.PlainAid
set_option linter.unusedVariables false
set_option linter.unusedSimpArgs false
attribute [local go_sem] Oper.semAt_some

abbrev cS (m : Nm) : Nat := m.sets.length
abbrev mv (np : Nat) : Value := .iface 41 (.pointer (some ⟨np, 0, none⟩))
/-- The worker lies at b; its tokens in G; its maker at np; S may turn. -/
structure WA (b G np : Nat) (S : Nat → Prop) (W : World) (s : Ws Nm) (a : Option Addr) (c : Nat) : Prop where
  blk : Blk W b 59 #[mv np, .slice a s.toks.length c, .int .i64 s.deep, .int .i64 s.idle, .int .i64 s.err]
  tk : TkAt G W a c s.toks
  sb : S b
  sg : ¬ S G
  gl : G < W.heap.size
  lt : ∀ g, S g → g < W.heap.size
  ma : NAt S np W s.ms
  ok : Ok cS s
def At (b G np : Nat) (S : Nat → Prop) (W : World) (s : Ws Nm) : Prop := ∃ a c, WA b G np S W s a c
theorem WA.below {b G np : Nat} {S : Nat → Prop} {W W' : World} {s : Ws Nm} {a : Option Addr} {c : Nat} (h : WA b G np S W s a c) (hb : Below W.heap.size W W') : WA b G np S W' s a c :=
  ⟨blk_beneath h.blk hb, h.tk.keep (hb.block G h.gl), h.sb, h.sg, Nat.lt_of_lt_of_le h.gl hb.size, fun g hg => Nat.lt_of_lt_of_le (h.lt g hg) hb.size, h.ma.below hb, h.ok⟩
theorem At.below {b G np : Nat} {S : Nat → Prop} {W W' : World} {s : Ws Nm} (h : At b G np S W s) (hb : Below W.heap.size W W') : At b G np S W' s := by
  obtain ⟨a, c, h⟩ := h
  exact ⟨a, c, h.below hb⟩
theorem At.ok {b G np : Nat} {S : Nat → Prop} {W : World} {s : Ws Nm} (h : At b G np S W s) : Ok cS s := by
  obtain ⟨a, c, h⟩ := h
  exact h.ok
theorem At.size {b G np : Nat} {S : Nat → Prop} {W : World} {s : Ws Nm} (h : At b G np S W s) : b < W.heap.size := by
  obtain ⟨a, c, h⟩ := h
  exact h.blk.lt
/-- The worker's block alone has turned. -/
theorem WA.turn {b G np : Nat} {S : Nat → Prop} {W W' : World} {s s' : Ws Nm} {a a' : Option Addr} {c c' : Nat} (h : WA b G np S W s a c) (hs : W.heap.size ≤ W'.heap.size) (hb : ∀ g, g < W.heap.size → g ≠ b → W'.heap[g]? = W.heap[g]?)
    (hB : Blk W' b 59 #[mv np, .slice a' s'.toks.length c', .int .i64 s'.deep, .int .i64 s'.idle, .int .i64 s'.err]) (ht : TkAt G W a' c' s'.toks) (hm : s'.ms = s.ms) (ho : Ok cS s') : WA b G np S W' s' a' c' :=
  ⟨hB, ht.keep (hb G h.gl (fun e => h.sg (by rw [e]; exact h.sb))), h.sb, h.sg, Nat.lt_of_lt_of_le h.gl hs, fun g hg => Nat.lt_of_lt_of_le (h.lt g hg) hs, by rw [hm]; exact h.ma.keep h.blk h.sb (by decide) (by decide) hs hb, ho⟩
theorem fr_turn {b : Nat} {S : Nat → Prop} {W W' : World} (hS : S b) (ho : W'.os = W.os) (ht : W'.tape = W.tape) (hp : W'.output = W.output) (hs : W.heap.size ≤ W'.heap.size) (hb : ∀ g, g < W.heap.size → g ≠ b → W'.heap[g]? = W.heap[g]?) : Fr S W S W' :=
  ⟨ho, ht, hp, hs, fun g h1 h2 => hb g h1 (fun e => h2 (by rw [e]; exact hS)), fun _ h => .inl h⟩

section
variable {b G np : Nat} {S : Nat → Prop} {w : World} {s : Ws Nm}

set_option maxRecDepth 100000 in
set_option maxHeartbeats 2000000 in
theorem peek_any (h : At b G np S w s) : Calls Tryz.prog 17 #[.pointer (some ⟨b, 0, none⟩)] w fun e w' => e = .returned (tkV (peekM s)) ∧ Below w.heap.size w w' := by
  obtain ⟨a, c, h⟩ := h
  obtain ⟨toks, dp, id, er, ms⟩ := s
  have hB := h.blk
  have hlt := h.blk.lt
  cases toks with
  | nil =>
    have c1 : w.cell? ⟨b, 1, none⟩ = some (.slice a 0 c) := hB.cell 1
    clear h hB
    go_enter Tryz.func17, Tryz.ntmps17
    go_wp2
    refine bodyPost_ret (results_cell_row rfl _ _ w.heap.size 64 Z64 (0, 0) _ rfl (Blk.new w _ _) Tryz.underlying64 rfl (by kernel_rfl)) rfl ?_
    exact ⟨rfl, (Below.refl _ _).alloc (Nat.le_refl _) _⟩
  | cons t l =>
    obtain ⟨o, rfl, hc, _⟩ := h.tk.head
    obtain ⟨n, hn⟩ : ∃ n, l.length = n := ⟨_, rfl⟩
    have c1 : w.cell? ⟨b, 1, none⟩ = some (.slice (some ⟨G, o, none⟩) (l.length + 1) c) := hB.cell 1
    have hll : l.length + 1 ≤ 200000 := h.tk.2.1
    have t0 := hc.kind
    have t1 := hc.text
    have t2 := hc.num
    have hG := h.gl
    rw [hn] at c1 hll
    clear h hB hc hn
    go_enter Tryz.func17, Tryz.ntmps17
    go_wp2
    refine bodyPost_ret (results_cell_row rfl _ _ w.heap.size 64 #[.int .i64 t.kind, .string t.text, .int .i64 t.num] (0, 0) _ rfl (Blk.new w _ _) Tryz.underlying64 rfl (by kernel_rfl)) rfl ?_
    exact ⟨rfl, (Below.refl _ _).alloc (Nat.le_refl _) _⟩

set_option maxRecDepth 100000 in
set_option maxHeartbeats 2000000 in
theorem is_any (h : At b G np S w s) (op : ByteArray) : Calls Tryz.prog 44 #[.pointer (some ⟨b, 0, none⟩), .string op] w fun e w' => e = .returned (.bool (isM op.toList s)) ∧ Below w.heap.size w w' := by
  have hpk := Lib.hid (peek_any h)
  have hi := Lib.hid (show isM op.toList s = (decide ((peekM s).kind = 3) && (peekM s).text.toList == op.toList) from rfl)
  obtain ⟨t, ht⟩ : ∃ t, peekM s = t := ⟨_, rfl⟩
  rw [ht] at hpk hi
  clear ht h
  cases hk : ((t.kind : Int) == 3)
  · have hk2 : decide (t.kind = 3) = false := decide_eq_false (fun e => by rw [e] at hk; cases hk)
    have hr := Lib.hid (show isM op.toList s = false by rw [hi.out, hk2]; rfl)
    clear hk2
    go_enter Tryz.func44, Tryz.ntmps44
    go_wp2_with (go_at_call 17; refine hpk.out.mono ?_; rintro e w2 ⟨rfl, hb2⟩; dsimp only [tkV])
    go_ret
    rw [hr.out]
    exact ⟨rfl, hb2.alloc hb2.size _⟩
  · have hk2 : decide (t.kind = 3) = true := decide_eq_true (by have := eq_of_beq hk; omega)
    have hr := Lib.hid (show isM op.toList s = (t.text.toList == op.toList) by rw [hi.out, hk2]; rfl)
    clear hk2
    go_enter Tryz.func44, Tryz.ntmps44
    go_wp2_with (go_at_call 17; refine hpk.out.mono ?_; rintro e w2 ⟨rfl, hb2⟩; dsimp only [tkV])
    go_ret
    rw [hr.out]
    exact ⟨rfl, hb2.alloc hb2.size _⟩

set_option maxRecDepth 100000 in
set_option maxHeartbeats 2000000 in
theorem works_any (h : At b G np S w s) : Calls Tryz.prog 32 #[.pointer (some ⟨b, 0, none⟩)] w fun e w' => e = .returned (.bool (worksM s)) ∧ w = w' := by
  obtain ⟨a, c, h⟩ := h
  have c3 : w.cell? ⟨b, 3, none⟩ = some (.int .i64 s.idle) := h.blk.cell 3
  have c4 : w.cell? ⟨b, 4, none⟩ = some (.int .i64 s.err) := h.blk.cell 4
  have hw := Lib.hid (show worksM s = ((s.idle == 0) && (s.err == 0)) by unfold worksM; rw [Bool.eq_iff_iff]; simp)
  clear h
  cases h1 : (s.idle == 0) <;> cases h2 : (s.err == 0)
  all_goals
    rw [h1, h2] at hw
    go_enter Tryz.func32, Tryz.ntmps32
    go_wp2
    go_ret
    rw [hw.out]
    exact ⟨rfl, rfl⟩

theorem err_set {W : World} {v1 v2 v3 v4 v5 x y : Value} (hB : Blk W b 59 #[v1, v2, v3, v4, v5]) : Blk ((W.setCell ⟨b, 4, none⟩ x).setCell ⟨b, 1, none⟩ y) b 59 #[v1, y, v3, v4, x] := (hB.set_ 4 _).set_ 1 _
theorem other2 (W : World) (x y : Value) : ∀ g, g < W.heap.size → g ≠ b → ((W.setCell ⟨b, 4, none⟩ x).setCell ⟨b, 1, none⟩ y).heap[g]? = W.heap[g]? := fun g _ hg => (Below.heap_setCell _ _ _ _ hg).trans (Below.heap_setCell _ _ _ _ hg)
set_option maxRecDepth 100000 in
set_option maxHeartbeats 2000000 in
theorem fail_any (h : At b G np S w s) (er : Int) : Calls Tryz.prog 19 #[.pointer (some ⟨b, 0, none⟩), .int .i64 er] w fun e w' => e = .returned (.tuple #[]) ∧ At b G np S w' (failM er s) ∧ Fr S w S w' := by
  obtain ⟨a, c, h⟩ := h
  have c4 : w.cell? ⟨b, 4, none⟩ = some (.int .i64 s.err) := h.blk.cell 4
  have f4 := h.blk.frozen 4
  have f1 := h.blk.frozen 1
  have c1 : w.cell? ⟨b, 1, none⟩ = some (.slice a s.toks.length c) := h.blk.cell 1
  have hH := Lib.hid h
  have hle := Lib.hid (failM_le cS er s)
  have hf := Lib.hid (show failM er s = if s.err = 0 ∧ er ≠ 0 then { s with err := er, toks := [] } else s from rfl)
  clear h
  cases h1 : (s.err == 0)
  · have hr := Lib.hid (show failM er s = s by rw [hf.out, if_neg (fun h => by rw [h.1] at h1; cases h1)])
    go_enter Tryz.func19, Tryz.ntmps19
    go_wp2
    go_end0
    rw [hr.out]
    exact ⟨rfl, ⟨a, c, hH.out⟩, Fr.refl _ _⟩
  · cases h2 : (er != 0)
    · have hr := Lib.hid (show failM er s = s by rw [hf.out, if_neg (fun h => by rw [bne_iff_ne.2 h.2] at h2; cases h2)])
      go_enter Tryz.func19, Tryz.ntmps19
      go_wp2
      go_end0
      rw [hr.out]
      exact ⟨rfl, ⟨a, c, hH.out⟩, Fr.refl _ _⟩
    · have hr := Lib.hid (show failM er s = { s with err := er, toks := [] } by rw [hf.out, if_pos ⟨eq_of_beq h1, bne_iff_ne.1 h2⟩])
      go_enter Tryz.func19, Tryz.ntmps19
      go_wp2
      go_end0
      have ho := hH.out.ok.le hle.out
      rw [hr.out] at ho ⊢
      refine ⟨rfl, ⟨none, 0, hH.out.turn (by simp) (other2 w _ _) (err_set hH.out.blk) (TkAt.nil _ _ _ _) rfl ho⟩, fr_turn hH.out.sb rfl rfl rfl (by simp) (other2 w _ _)⟩

theorem set_far (X : World) (p i : Nat) (u : Value) {g : Nat} (h : g ≠ p) : (X.setCell ⟨p, i, none⟩ u).heap[g]? = X.heap[g]? := Below.heap_setCell X ⟨p, i, none⟩ u g h
theorem set3_far (W : World) (q : Nat) (x y z : Value) {g : Nat} (h : g ≠ q) : (set3 W q x y z).heap[g]? = W.heap[g]? := by unfold set3; rw [set_far _ _ _ _ h, set_far _ _ _ _ h, set_far _ _ _ _ h]
theorem set3_size (W : World) (q : Nat) (x y z : Value) : (set3 W q x y z).heap.size = W.heap.size := by unfold set3; rw [World.size_setCell, World.size_setCell, World.size_setCell]
theorem tk_set {W : World} {v1 v2 v3 v4 v5 x : Value} (hB : Blk W b 59 #[v1, v2, v3, v4, v5]) : Blk (W.setCell ⟨b, 1, none⟩ x) b 59 #[v1, x, v3, v4, v5] := hB.set_ 1 _
theorem other1 (W : World) (i : Nat) (x : Value) : ∀ g, g < W.heap.size → g ≠ b → (W.setCell ⟨b, i, none⟩ x).heap[g]? = W.heap[g]? := fun g _ hg => Below.heap_setCell _ _ _ _ hg
set_option maxRecDepth 100000 in
set_option maxHeartbeats 4000000 in
theorem next_any (h : At b G np S w s) : Calls Tryz.prog 28 #[.pointer (some ⟨b, 0, none⟩)] w fun e w' => e = .returned (tkV (peekM s)) ∧ At b G np S w' (nextM s) ∧ Fr S w S w' := by
  have hbs := h.size
  have hw1 := Lib.hid (show Below w.heap.size w (w.alloc (.cells Z64 64)) from (Below.refl _ _).alloc (Nat.le_refl _) _)
  have hN := Lib.hid (Blk.new w 64 Z64)
  have hpk := Lib.hid (peek_any (h.below hw1.out))
  obtain ⟨q, hq⟩ : ∃ q, w.heap.size = q := ⟨_, rfl⟩
  have hfr := Lib.hid (fun (W : World) (hb : Below (w.alloc (.cells Z64 64)).heap.size (w.alloc (.cells Z64 64)) W) => show Below w.heap.size w W ∧ Blk W w.heap.size 64 Z64 from ⟨hw1.out.trans (hb.mono hw1.out.size), blk_beneath hN.out hb⟩)
  have hle := Lib.hid (nextM_le cS s)
  have hH := Lib.hid h
  obtain ⟨t, ht⟩ : ∃ t, peekM s = t := ⟨_, rfl⟩
  rw [ht] at hpk
  have htH := Lib.hid ht
  rw [hq] at hbs
  have hqH := Lib.hid hq
  clear ht h hq
  go_enter Tryz.func28, Tryz.ntmps28
  go_upto_region 2 with (go_at_call 17; refine hpk.out.mono ?_; rintro e w2 ⟨rfl, hb2⟩; dsimp only [tkV])
  obtain ⟨hbw, hZ⟩ := hfr.out w2 hb2
  have hs2 : q < w2.heap.size := by have := hZ.lt; rw [hqH.out] at this; exact this
  obtain ⟨q3, hq3⟩ : ∃ q, w2.heap.size = q := ⟨_, rfl⟩
  have hT := Blk.new w2 64 #[.int .i64 t.kind, .string t.text, .int .i64 t.num]
  have hZ3 := hZ.alloc (.cells #[.int .i64 t.kind, .string t.text, .int .i64 t.num] 64)
  have hbw3 := hbw.alloc hbw.size (.cells #[.int .i64 t.kind, .string t.text, .int .i64 t.num] 64)
  obtain ⟨W3, hW3⟩ : ∃ W, w2.alloc (.cells #[.int .i64 t.kind, .string t.text, .int .i64 t.num] 64) = W := ⟨_, rfl⟩
  rw [hW3] at hT hZ3 hbw3 ⊢
  rw [hq3] at hT hs2 ⊢
  rw [hqH.out] at hZ3 ⊢
  obtain ⟨a, c, hA⟩ := hH.out.below hbw3
  have c1 : W3.cell? ⟨b, 1, none⟩ = some (.slice a s.toks.length c) := hA.blk.cell 1
  have f1 := hA.blk.frozen 1
  have z0 : W3.cell? ⟨q, 0, none⟩ = some (.int .i64 0) := hZ3.cell 0
  have z1 : W3.cell? ⟨q, 1, none⟩ = some (.string ⟨#[]⟩) := hZ3.cell 1
  have z2 : W3.cell? ⟨q, 2, none⟩ = some (.int .i64 0) := hZ3.cell 2
  have g0 := hZ3.frozen 0
  have g1 := hZ3.frozen 1
  have g2 := hZ3.frozen 2
  have t0 : W3.cell? ⟨q3, 0, none⟩ = some (.int .i64 t.kind) := hT.cell 0
  have t1 : W3.cell? ⟨q3, 1, none⟩ = some (.string t.text) := hT.cell 1
  have t2 : W3.cell? ⟨q3, 2, none⟩ = some (.int .i64 t.num) := hT.cell 2
  have hbH := Lib.hid hbw3
  have hAH := Lib.hid hA
  have hZH := Lib.hid hZ3
  have hnext := Lib.hid (show (nextM s).toks = s.toks.tail from rfl)
  have hnb : ¬ b = q := by omega
  have hnb3 : ¬ b = q3 := by omega
  have hqq : ¬ q = q3 := by omega
  cases hl : s.toks with
  | nil =>
    have hr := Lib.hid (show nextM s = s by unfold nextM; rw [hl]; show (⟨[], _, _, _, _⟩ : Ws Nm) = s; rw [← hl])
    rw [hl] at c1
    clear hbw hZ hbw3 hA hZ3 hT hW3 hq3 hb2 hl
    go_wp2
    refine bodyPost_ret (results_cell_row rfl _ _ q 64 #[.int .i64 t.kind, .string t.text, .int .i64 t.num] (0, 0) _ rfl (set3_blk hZH.out) Tryz.underlying64 rfl (by kernel_rfl)) rfl ?_
    have hb9 : Below w.heap.size w (set3 W3 q (.int .i64 t.kind) (.string t.text) (.int .i64 t.num)) := set3_below hbH.out (by have := hqH.out; omega) _ _ _
    refine ⟨by rw [htH.out]; rfl, ?_, Fr.of_below hb9⟩
    rw [hr.out]
    exact hH.out.below hb9
  | cons t9 l =>
    have htk := hA.tk
    rw [hl] at htk c1
    obtain ⟨o, rfl, _, hrest⟩ := htk.head
    obtain ⟨n, hn⟩ : ∃ n, l.length = n := ⟨_, rfl⟩
    replace c1 : W3.cell? ⟨b, 1, none⟩ = some (.slice (some ⟨G, o, none⟩) (n + 1) c) := by rw [← hn]; exact c1
    have hnc : n + 1 ≤ c := by have := htk.1; rw [List.length_cons, hn] at this; exact this
    have hnl : n + 1 ≤ 200000 := by have := htk.2.1; rw [List.length_cons, hn] at this; exact this
    have hrestH := Lib.hid hrest
    have hlH := Lib.hid hl
    have hnH := Lib.hid hn
    clear hbw hZ hbw3 hA hZ3 hT hW3 hq3 hb2 hl htk hrest hn
    have fin : ∀ (a' : Option Addr) (c' : Nat), TkAt G W3 a' c' l → Ending.returned (Value.agg #[.int .i64 t.kind, .string t.text, .int .i64 t.num]) = .returned (tkV (peekM s)) ∧ At b G np S (set3 (W3.setCell ⟨b, 1, none⟩ (.slice a' n c')) q (.int .i64 t.kind) (.string t.text) (.int .i64 t.num)) (nextM s) ∧ Fr S w S (set3 (W3.setCell ⟨b, 1, none⟩ (.slice a' n c')) q (.int .i64 t.kind) (.string t.text) (.int .i64 t.num)) := fun a' c' htk => by
      have hA := hAH.out
      have hb3 := hbH.out
      have hq := hqH.out
      obtain ⟨X, hX⟩ : ∃ X, W3.setCell ⟨b, 1, none⟩ (.slice a' n c') = X := ⟨_, rfl⟩
      have hXs : X.heap.size = W3.heap.size := by rw [← hX, World.size_setCell]
      have hXf : ∀ g, g ≠ b → X.heap[g]? = W3.heap[g]? := fun g hg => by rw [← hX]; exact set_far _ _ _ _ hg
      have hXb : Blk X b 59 #[mv np, .slice a' n c', .int .i64 s.deep, .int .i64 s.idle, .int .i64 s.err] := by rw [← hX]; exact tk_set hA.blk
      have hXo : X.os = w.os ∧ X.tape = w.tape ∧ X.output = w.output := by rw [← hX]; exact ⟨hb3.os, hb3.tape, hb3.output⟩
      rw [hX]
      clear hX
      obtain ⟨Y, hY⟩ : ∃ Y, set3 X q (.int .i64 t.kind) (.string t.text) (.int .i64 t.num) = Y := ⟨_, rfl⟩
      have hYs : Y.heap.size = W3.heap.size := by rw [← hY, set3_size, hXs]
      have hYf : ∀ g, g ≠ q → Y.heap[g]? = X.heap[g]? := fun g hg => by rw [← hY]; exact set3_far _ _ _ _ _ hg
      have hYo : Y.os = w.os ∧ Y.tape = w.tape ∧ Y.output = w.output := by rw [← hY]; exact hXo
      rw [hY]
      clear hY
      have hot : ∀ g, g < w.heap.size → g ≠ b → Y.heap[g]? = w.heap[g]? := fun g h1 h2 => (hYf g (by omega)).trans ((hXf g h2).trans (hb3.block g h1))
      obtain ⟨a0, c0, hA0⟩ := hH.out
      have hB9 : Blk Y b 59 #[mv np, .slice a' n c', .int .i64 s.deep, .int .i64 s.idle, .int .i64 s.err] := (hYf b hnb).trans hXb
      have e9 : (nextM s).toks = l := by rw [hnext.out, hlH.out]; rfl
      refine ⟨by rw [htH.out]; rfl, ⟨a', c', hA0.turn (by rw [hYs]; exact hb3.size) hot ?_ ?_ rfl (hA0.ok.le hle.out)⟩, fr_turn hA0.sb hYo.1 hYo.2.1 hYo.2.2 (by rw [hYs]; exact hb3.size) hot⟩
      · rw [e9, hnH.out]
        exact hB9
      · rw [e9]
        exact htk.keep (hb3.block G hA0.gl).symm
    have finH := Lib.hid fin
    clear fin
    by_cases hc : c = 1
    · subst hc
      obtain rfl : n = 0 := by omega
      obtain rfl : l = [] := List.eq_nil_of_length_eq_zero hnH.out
      go_wp2
      refine bodyPost_ret (results_cell_row rfl _ _ q 64 #[.int .i64 t.kind, .string t.text, .int .i64 t.num] (0, 0) _ rfl (set3_blk (hZH.out.far (fun e => hnb e.symm) _)) Tryz.underlying64 rfl (by kernel_rfl)) rfl ?_
      exact finH.out (some ⟨G, o, none⟩) 0 (TkAt.nil _ _ _ _)
    · have hcc : ¬ 1 = c := fun e => hc e.symm
      go_wp2
      refine bodyPost_ret (results_cell_row rfl _ _ q 64 #[.int .i64 t.kind, .string t.text, .int .i64 t.num] (0, 0) _ rfl (set3_blk (hZH.out.far (fun e => hnb e.symm) _)) Tryz.underlying64 rfl (by kernel_rfl)) rfl ?_
      exact finH.out (some ⟨G, o + 3, none⟩) (c - 1) (hrestH.out (c - 1) (by have := hnH.out; omega))

set_option maxRecDepth 100000 in
set_option maxHeartbeats 4000000 in
theorem need_any (h : At b G np S w s) (op : ByteArray) : Calls Tryz.prog 47 #[.pointer (some ⟨b, 0, none⟩), .string op] w fun e w' => e = .returned (.tuple #[]) ∧ At b G np S w' (needM op.toList s) ∧ Fr S w S w' := by
  have hi := Lib.hid (is_any h op)
  have hn := Lib.hid (show needM op.toList s = nextM (if isM op.toList s then s else failM 60 s) from rfl)
  have hH := Lib.hid h
  clear h
  cases hI : isM op.toList s
  · rw [hI] at hi hn
    go_enter Tryz.func47, Tryz.ntmps47
    go_wp2_with (first | (go_at_call 44; refine hi.out.mono ?_; rintro e w2 ⟨rfl, hb2⟩; have hA2 := Lib.hid (hH.out.below hb2); have hF2 := Lib.hid (Fr.of_below (S := S) hb2); clear hb2) | (go_at_call 19; refine (fail_any hA2.out 60).mono ?_; rintro e w3 ⟨rfl, hA3, hF3⟩; have hA3H := Lib.hid hA3; have hF3H := Lib.hid hF3; clear hA3 hF3) | (go_at_call 28; refine (next_any hA3H.out).mono ?_; rintro e w4 ⟨rfl, hA4, hF4⟩; have hA4H := Lib.hid hA4; have hF4H := Lib.hid hF4; clear hA4 hF4))
    go_end0
    rw [hn.out]
    exact ⟨rfl, hA4H.out, (hF2.out.trans hF3H.out).trans hF4H.out⟩
  · rw [hI] at hi hn
    go_enter Tryz.func47, Tryz.ntmps47
    go_wp2_with (first | (go_at_call 44; refine hi.out.mono ?_; rintro e w2 ⟨rfl, hb2⟩; have hA2 := Lib.hid (hH.out.below hb2); have hF2 := Lib.hid (Fr.of_below (S := S) hb2); clear hb2) | (go_at_call 28; refine (next_any hA2.out).mono ?_; rintro e w4 ⟨rfl, hA4, hF4⟩; have hA4H := Lib.hid hA4; have hF4H := Lib.hid hF4; clear hA4 hF4))
    go_end0
    rw [hn.out]
    exact ⟨rfl, hA4H.out, hF2.out.trans hF4H.out⟩
end
end Go.Proofs.YtjbmpockoicgmaaGreat.I
