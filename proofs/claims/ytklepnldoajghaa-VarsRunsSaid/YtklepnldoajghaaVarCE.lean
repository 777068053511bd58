/- The reference's SetArgs and Shift. Condition: the rows lie as stated. -/
import Derived.Test.YtklepnldoajghaaVarCD
namespace Go.Proofs.Ytklepnldoajghaa
open Go.RowKit Go.PlainAid
attribute [local go_sem] Oper.semAt_some

/-- Nothing that was there has turned but one block. -/
structure RT (q : Nat) (w w' : World) : Prop where
  os : w'.os = w.os
  tape : w'.tape = w.tape
  output : w'.output = w.output
  size : w.heap.size ≤ w'.heap.size
  block : ∀ k, k < w.heap.size → k ≠ q → w'.heap[k]? = w.heap[k]?
theorem RT.of {q : Nat} {w w' : World} (h : Below w.heap.size w w') : RT q w w' := ⟨h.os, h.tape, h.output, h.size, fun k hk _ => h.block k hk⟩
theorem RT.trans {q : Nat} {a b c : World} (h : RT q a b) (k : RT q b c) : RT q a c :=
  ⟨k.os.trans h.os, k.tape.trans h.tape, k.output.trans h.output, Nat.le_trans h.size k.size, fun i hi h1 => (k.block i (Nat.lt_of_lt_of_le hi h.size) h1).trans (h.block i hi h1)⟩
theorem RT.set {q o : Nat} {a b : World} (h : RT q a b) (u : Value) : RT q a (b.setCell ⟨q, o, none⟩ u) :=
  ⟨h.os, h.tape, h.output, by simpa [World.setCell] using h.size, fun i hi h1 => (Below.heap_setCell b ⟨q, o, none⟩ u i h1).trans (h.block i hi h1)⟩

theorem row_blk {w : World} {b e s n g : Nat} {v : Value} {xs : List Value} (h : w.ownsRow b e s v n xs) (hg : v.ownBlock = some g) : ∃ cs, Blk w g e cs := by
  rcases h.2 with ⟨rfl, _⟩ | ⟨g', cap, cur, rfl, _, hb, _⟩
  · cases hg
  · obtain rfl : g' = g := by simpa [Value.ownBlock] using hg
    exact ⟨cur, hb⟩

/-- How a call of the reference ends. -/
def REnds (n₀ q : Nat) (L : Vl) (A : List ByteArray) (w w' : World) : Prop := ∃ lv av, RefAt n₀ w' q L A lv av ∧ RT q w w' ∧ (q < w.heap.size → ∀ g, av.ownBlock = some g → (∃ u, w.cell? ⟨q, 1, none⟩ = some u ∧ u.ownBlock = some g) ∨ (w.heap.size ≤ g ∧ ∃ cs, Blk w' g 9 cs))
theorem REnds.same {n₀ q : Nat} {L : Vl} {A : List ByteArray} {lv av : Value} {w w' : World} (h : RefAt n₀ w q L A lv av) (hb : Below w.heap.size w w') : REnds n₀ q L A w w' := ⟨lv, av, h.beneath hb, .of hb, fun _ _ hg => .inl ⟨av, h.blk.cell 1, hg⟩⟩
theorem REnds.pre {n₀ q : Nat} {L : Vl} {A : List ByteArray} {a b c : World} (h : Below a.heap.size a b) (k : REnds n₀ q L A b c) : REnds n₀ q L A a c := by
  obtain ⟨lv, av, h1, h2, h3⟩ := k
  refine ⟨lv, av, h1, (RT.of h).trans h2, fun hq g hg => ?_⟩
  rcases h3 (Nat.lt_of_lt_of_le hq h.size) g hg with ⟨u, hu, hug⟩ | e
  · exact .inl ⟨u, ((h.cell (p := ⟨q, 1, none⟩) hq).symm.trans hu), hug⟩
  · exact .inr ⟨Nat.le_trans h.size e.1, e.2⟩

theorem tx_keep {w w1 : World} {v : Value} {K : List ByteArray} (h : TxAt w v K) (hb : ∀ g, v.ownBlock = some g → K ≠ [] → w1.heap[g]? = w.heap[g]?) : TxAt w1 v K := by
  rcases h with h | ⟨b, off, c, rfl, hc, h⟩
  · exact .inl h
  · refine .inr ⟨b, off, c, rfl, hc, fun j u hj => ?_⟩
    have hK : K ≠ [] := fun e => by subst e; simp [flat] at hj
    exact (World.cell?_of_block (w := w) (hb b rfl hK)).trans (h j u hj)
theorem tx_off {w : World} {g : Nat} {t : TypeId} {cs : Array Value} (hB : Blk w g t cs) {v : Value} {K : List ByteArray} (h : TxAt w v K) (hcs : ∀ (j : Nat) (s : ByteArray), cs[j]? ≠ some (Value.string s)) : ∀ k, v.ownBlock = some k → K ≠ [] → k ≠ g := fun k hk hK e => by
  subst e
  rcases h with ⟨rfl, _⟩ | ⟨b, off, c, rfl, _, h⟩
  · cases hk
  · obtain rfl : b = k := by simpa [Value.ownBlock] using hk
    cases K with
    | nil => exact hK rfl
    | cons x K =>
      have h0 := h 0 (.string x) rfl
      rw [hB.cell] at h0
      exact hcs _ _ h0
theorem no_str2 (a b : Value) (ha : ∀ s, a ≠ .string s) (hb : ∀ s, b ≠ .string s) : ∀ (j : Nat) (s : ByteArray), (#[a, b] : Array Value)[j]? ≠ some (.string s) := fun j s h => by
  rcases j with _ | _ | j
  · exact ha s (by simpa using h)
  · exact hb s (by simpa using h)
  · simp at h
theorem RefAt.nostr {n₀ : Nat} {w : World} {q : Nat} {L : Vl} {A : List ByteArray} {lv av : Value} (h : RefAt n₀ w q L A lv av) : ∀ (j : Nat) (s : ByteArray), (#[lv, av] : Array Value)[j]? ≠ some (.string s) := by
  obtain ⟨a0, c0, rfl⟩ := ownsRow_slice h.list
  obtain ⟨a1, c1, rfl⟩ := h.args.slice
  exact no_str2 _ _ (fun s h => by cases h) (fun s h => by cases h)

/-- The parameters turned. -/
theorem REnds.args {n₀ q : Nat} {L : Vl} {A K : List ByteArray} {lv av v : Value} {w w1 : World} (h : RefAt n₀ w q L A lv av) (hb : Below w.heap.size w w1) (hv : TxAt w1 v K) (hvb : ∀ g, v.ownBlock = some g → K ≠ [] → n₀ ≤ g) (hvn : ∀ g, v.ownBlock = some g → av.ownBlock = some g ∨ (w.heap.size ≤ g ∧ ∃ cs, Blk w1 g 9 cs)) (hK : K.length ≤ 200) :
    REnds n₀ q L K w (w1.setCell ⟨q, 1, none⟩ v) := by
  have h1 := h.beneath hb
  have hfar : ∀ g, g ≠ q → (w1.setCell ⟨q, 1, none⟩ v).heap[g]? = w1.heap[g]? := fun g hg => Below.heap_setCell _ _ _ g hg
  exact ⟨lv, v, ⟨h1.blk.set_ 1 _, h1.base, row_keep h1.list (fun g hg => hfar g (fun e => row_off h1.blk (by decide) h1.list (by rw [← e]; exact hg.symm))), tx_keep hv (fun g hg hne => hfar g (tx_off h1.blk hv h1.nostr g hg hne)), hvb, h1.srt, h1.len, hK⟩, (RT.of hb).set v, fun _ g hg => by
    rcases hvn g hg with e | e
    · exact .inl ⟨av, h.blk.cell 1, e⟩
    · obtain ⟨e1, cs, hc⟩ := e
      exact .inr ⟨e1, cs, hc.far (p := ⟨q, 1, none⟩) (fun e2 => by have e3 : g = q := e2; have := h.blk.lt; omega) v⟩⟩

set_option maxHeartbeats 1000000 in
theorem setArgsR_big {q n c : Nat} {a : Option Addr} (w : World) (hn : 200 < n) (hm : n ≤ maxLen) : Calls Try.prog 17 #[.pointer (some ⟨q, 0, none⟩), .slice a n c] w fun e w' => e = .returned (.int .i64 66) ∧ w' = w := by
  unfold maxLen at hm
  have hn' : (200 : Int) < n := by omega
  go_enter Try.func17, Try.ntmps17
  go_wp2_with fail
  go_ret
  exact ⟨rfl, rfl⟩

set_option maxHeartbeats 2000000 in
theorem setArgsR_any {n₀ q c : Nat} {L : Vl} {A K : List ByteArray} {lv av : Value} {a : Option Addr} (w : World) (h : RefAt n₀ w q L A lv av) (hn0 : n₀ ≤ w.heap.size) (hK : K.length ≤ 200) (hs : Src w a (flat kcs K)) :
    Calls Try.prog 17 #[.pointer (some ⟨q, 0, none⟩), .slice a K.length c] w fun e w' => e = .returned (.int .i64 0) ∧ REnds n₀ q L K w w' := by
  obtain ⟨i0, hi0, hz0, hz1, hz2⟩ := info_parts info9
  have hH := Lib.hid h
  have hsH := Lib.hid hs
  obtain ⟨n, hn⟩ : ∃ n, K.length = n := ⟨_, rfl⟩
  have hK' : ¬ (200 : Int) < n := by omega
  have hnH := Lib.hid hn
  have hKl : (flat kcs K).length = n * 1 := by rw [flat_len kcs_len, hn]
  have hKH := Lib.hid hK
  rw [hn]
  clear h hs hn hK
  go_enter Try.func17, Try.ntmps17
  go_wp2_with (at_builtin; refine wpList_app rfl _ _ 28 rfl w.heap.size 9 i0 _ 1 16 Try.underlying28 hi0 hz0 hz1 hz2 rfl (by decide) _ 0 [] rfl (empty_row w w.heap.size 9 1 (Nat.le_refl _)) a n c (flat kcs K) rfl hKl (src_beneath hsH.out ((Below.refl _ _).alloc (Nat.le_refl _) _)) (flat_one kcs_one K) (by omega) (by omega) (by simp) ?_; intro a1 c1 w1 hr1 hg1 _; rw [Nat.zero_add, List.nil_append] at hr1; have hb1 : Below w.heap.size w w1 := ⟨hg1.os, hg1.tape, hg1.output, by have := hg1.size; simp at this; omega, fun k hk => (hg1.block k (by simp; omega) (fun e => by have := Option.some.inj e; simp at this; omega)).trans (Below.heap_alloc w _ k hk)⟩; have q1 : w1.cell? ⟨q, 1, none⟩ = some av := (blk_beneath hH.out.blk hb1).cell 1; have q1f : w1.frozen? ⟨q, 1, none⟩ = false := (blk_beneath hH.out.blk hb1).frozen 1; have hr1H := Lib.hid hr1; have hb1H := Lib.hid hb1; clear hr1 hg1 hb1)
  go_ret
  exact ⟨rfl, .args hH.out hb1H.out (.of_row (by rw [hnH.out]; exact hr1H.out)) (fun g hg _ => Nat.le_trans hn0 (hr1H.out.lt g hg).1) (fun g hg => .inr ⟨(hr1H.out.lt g hg).1, row_blk hr1H.out hg⟩) hKH.out⟩

set_option maxHeartbeats 1000000 in
theorem shiftR_no {n₀ q : Nat} {L : Vl} {A : List ByteArray} {lv av : Value} (n : Int) (w : World) (h : RefAt n₀ w q L A lv av) (hn : n < 0 ∨ (A.length : Int) < n) :
    Calls Try.prog 19 #[.pointer (some ⟨q, 0, none⟩), .int .i64 n] w fun e w' => e = .returned (.int .i64 22) ∧ w' = w := by
  obtain ⟨a, c, rfl⟩ := h.args.slice
  have h2 : w.cell? ⟨q, 1, none⟩ = some _ := h.blk.cell 1
  clear h
  by_cases h0 : n < 0
  · clear hn
    go_enter Try.func19, Try.ntmps19
    go_wp2_with fail
    go_ret
    exact ⟨rfl, rfl⟩
  · have h1 : (A.length : Int) < n := by omega
    clear hn
    go_enter Try.func19, Try.ntmps19
    go_wp2_with fail
    go_ret
    exact ⟨rfl, rfl⟩

set_option maxHeartbeats 2000000 in
theorem shiftR_yes {n₀ q : Nat} {L : Vl} {A : List ByteArray} {lv av : Value} (k : Nat) (w : World) (h : RefAt n₀ w q L A lv av) (hk : k ≤ A.length) :
    Calls Try.prog 19 #[.pointer (some ⟨q, 0, none⟩), .int .i64 k] w fun e w' => e = .returned (.int .i64 0) ∧ REnds n₀ q L (A.drop k) w w' := by
  have hAl : (A.drop k).length ≤ 200 := by have := h.alen; rw [List.length_drop]; omega
  have hal := h.alen
  have hH := Lib.hid h
  have hk1 : ¬ (k : Int) < 0 := by omega
  have q0 : w.cell? ⟨q, 1, none⟩ = some av := h.blk.cell 1
  have q1 : w.frozen? ⟨q, 1, none⟩ = false := h.blk.frozen 1
  rcases h.args with ⟨rfl, rfl⟩ | ⟨b, off, c, rfl, hc, hcl⟩
  · obtain rfl : k = 0 := by simpa using hk
    clear h
    go_enter Try.func19, Try.ntmps19
    go_wp2_with fail
    go_ret
    exact ⟨rfl, .args hH.out (Below.refl _ _) (.inl ⟨rfl, rfl⟩) (fun g hg => by cases hg) (fun g hg => .inl hg) hAl⟩
  · have hT := h.args
    obtain ⟨n, hn⟩ : ∃ n, A.length = n := ⟨_, rfl⟩
    have hnH := Lib.hid hn
    rw [hn] at hk hc hal q0 hT
    have hk2 : ¬ (n : Int) < (k : Int) := by omega
    have hbb : ∀ K' : List ByteArray, K' = A.drop k → K' ≠ [] → n₀ ≤ b := fun K' e hne => h.abase b rfl (fun e2 => hne (by rw [e, e2]; exact List.drop_nil))
    have hbbH := Lib.hid hbb
    by_cases hck : c = k
    · have hu := Lib.hid (TxAt.drop_all (w := w) (b := b) (off := off) (n := n - k) (K := A) (k := k) (by omega) (by omega))
      have hckH := Lib.hid hck
      clear h hT hcl hn hbb
      go_enter Try.func19, Try.ntmps19
      go_wp2_with fail
      go_ret
      exact ⟨rfl, .args hH.out (Below.refl _ _) hu.out (fun g hg hne => by obtain rfl : b = g := (by simpa [Value.ownBlock] using hg); exact hbbH.out _ rfl hne) (fun g hg => .inl (by simpa [Value.ownBlock] using hg)) hAl⟩
    · have hlt : k < c := by omega
      have hu0 := h.args.drop_at (k := k) (by rw [hn]; exact hk)
      rw [hn] at hu0
      have hu := Lib.hid hu0
      clear h hT hcl hn hbb hck hu0
      go_enter Try.func19, Try.ntmps19
      go_wp2_with fail
      go_ret
      exact ⟨rfl, .args hH.out (Below.refl _ _) hu.out (fun g hg hne => by obtain rfl : b = g := (by simpa [Value.ownBlock] using hg); exact hbbH.out _ rfl hne) (fun g hg => .inl (by simpa [Value.ownBlock] using hg)) hAl⟩
end Go.Proofs.Ytklepnldoajghaa
