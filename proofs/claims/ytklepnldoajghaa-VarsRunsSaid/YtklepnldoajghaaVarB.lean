/- Variables in memory, and the contracts of what reads them: get, Get, count, isFull; New. Condition: the variables lie as stated. -/
import Derived.Test.YtklepnldoajghaaVarA
namespace Go.Proofs.Ytklepnldoajghaa
open Go.RowKit
attribute [local go_sem] Oper.semAt_some

theorem flat_get {α : Type} {enc : α → List Value} {k : Nat} (hk : ∀ x, (enc x).length = k) {l : List α} {i : Nat} {x : α} (h : l[i]? = some x) (j : Nat) (hj : j < k) : (flat enc l)[i * k + j]? = (enc x)[j]? := by
  obtain ⟨hi, hx⟩ := List.getElem?_eq_some_iff.1 h
  have e : flat enc l = flat enc (l.take i) ++ (enc x ++ flat enc (l.drop (i + 1))) := by
    have e1 : l = l.take i ++ x :: l.drop (i + 1) := by
      rw [← hx, List.getElem_cons_drop, List.take_append_drop]
    conv => lhs; rw [e1]
    simp [flat]
  have e2 : (flat enc (l.take i)).length = i * k := by rw [flat_len hk, List.length_take, Nat.min_eq_left (by omega)]
  rw [e, List.getElem?_append_right (by omega), e2, Nat.add_sub_cancel_left, List.getElem?_append_left (by rw [hk]; exact hj)]

theorem row_at {α : Type} {enc : α → List Value} {k : Nat} (hk : ∀ x, (enc x).length = k) {n₀ : Nat} {e : TypeId} {w : World} {v : Value} {l : List α} (h : w.ownsRow n₀ e k v l.length (flat enc l)) {i : Nat} {x : α} (hx : l[i]? = some x) :
    ∃ g cap, v = .slice (some ⟨g, 0, none⟩) l.length cap ∧ n₀ ≤ g ∧ (∀ j u, (enc x)[j]? = some u → w.cell? ⟨g, i * k + j, none⟩ = some u) ∧ (∀ o, w.frozen? ⟨g, o, none⟩ = false) ∧ l.length ≤ cap := by
  obtain ⟨hi, _⟩ := List.getElem?_eq_some_iff.1 hx
  rcases h.2 with ⟨rfl, h0⟩ | ⟨g, cap, cur, rfl, hg0, hg, hc, _, hs, htk⟩
  · omega
  · refine ⟨g, cap, rfl, hg0, fun j u hj => ?_, fun o => ?_, hc⟩
    · have hjk : j < k := by rw [← hk x]; exact (List.getElem?_eq_some_iff.1 hj).1
      have hlt : i * k + j < l.length * k := by
        have := Nat.mul_le_mul_right k (show i + 1 ≤ l.length by omega)
        rw [Nat.succ_mul] at this
        omega
      have e := cell_of_row w g (i * k + j) cur e (0, 0) hg
      have e2 := flat_get hk hx j hjk
      rw [← htk, List.getElem?_take_of_lt hlt, Array.getElem?_toList] at e2
      exact (e.trans e2).trans hj
    · simp [World.frozen?, hg]

/-- The variables, by their names. -/
abbrev Vl := List (ByteArray × Vb)
def ks (L : Vl) : List ByteArray := L.map (·.1)
def vs (L : Vl) : List Vb := L.map (·.2)
theorem ks_len (L : Vl) : (ks L).length = L.length := List.length_map ..
theorem vs_len (L : Vl) : (vs L).length = L.length := List.length_map ..
def Vb.no : Vb := ⟨ByteArray.empty, false, false, false⟩
/-- What a name has. -/
def got (L : Vl) (x : ByteArray) : Vb := if has (ks L) x then ((vs L)[pos (ks L) x]?).getD Vb.no else Vb.no

theorem block_of_cell {w : World} {a : Addr} {v : Value} (h : w.cell? a = some v) : a.block < w.heap.size := by
  unfold World.cell? at h
  rcases Nat.lt_or_ge a.block w.heap.size with g | g
  · exact g
  · rw [Array.getElem?_eq_none g] at h; simp at h
theorem cell_alloc {w : World} {p i : Nat} (o : Obj) (h : p < w.heap.size) : (w.alloc o).cell? ⟨p, i, none⟩ = w.cell? ⟨p, i, none⟩ := World.cell?_of_block (w := w) (Below.heap_alloc w o p h)

/-- The two rows. -/
structure OrdAt (n₀ : Nat) (w : World) (p : Nat) (L : Vl) (kv vv : Value) : Prop where
  c0 : w.cell? ⟨p, 0, none⟩ = some kv
  c1 : w.cell? ⟨p, 1, none⟩ = some vv
  keys : w.ownsRow n₀ 9 1 kv (ks L).length (flat kcs (ks L))
  vals : w.ownsRow n₀ 68 4 vv (vs L).length (flat vcs (vs L))
  srt : Sorted (ks L)
  len : L.length ≤ 64

theorem has_at {K : List ByteArray} {x : ByteArray} (h : has K x = true) : K[pos K x]? = some x := of_decide_eq_true h
theorem has_lt {K : List ByteArray} {x : ByteArray} (h : has K x = true) : pos K x < K.length := (List.getElem?_eq_some_iff.1 (has_at h)).1

theorem Below.drewN_ {n : Nat} {a w : World} (q : Nat) (h : Below n a w) : Below n a (w.drewN q) := ⟨h.os, h.tape, h.output, h.size, h.block⟩
theorem blk4 {W : World} {m : Nat} {a b c d : Value} (h : Blk W m 68 #[a, b, c, d]) : (W.cell? ⟨m, 0, none⟩ = some a ∧ W.cell? ⟨m, 1, none⟩ = some b ∧ W.cell? ⟨m, 2, none⟩ = some c ∧ W.cell? ⟨m, 3, none⟩ = some d) ∧
    (W.frozen? ⟨m, 0, none⟩ = false ∧ W.frozen? ⟨m, 1, none⟩ = false ∧ W.frozen? ⟨m, 2, none⟩ = false ∧ W.frozen? ⟨m, 3, none⟩ = false) :=
  ⟨⟨h.cell 0, h.cell 1, h.cell 2, h.cell 3⟩, h.frozen 0, h.frozen 1, h.frozen 2, h.frozen 3⟩
/-- A struct of four cells that is written whole. -/
def set4 (W : World) (m : Nat) (a b c d : Value) : World := (((W.setCell ⟨m, 0, none⟩ a).setCell ⟨m, 1, none⟩ b).setCell ⟨m, 2, none⟩ c).setCell ⟨m, 3, none⟩ d
theorem set4_blk {W : World} {m : Nat} {a b c d a' b' c' d' : Value} (h : Blk W m 68 #[a, b, c, d]) : Blk (set4 W m a' b' c' d') m 68 #[a', b', c', d'] :=
  (((h.set_ 0 _).set_ 1 _).set_ 2 _).set_ 3 _
theorem set4_below {n m : Nat} {w W : World} (h : Below n w W) (hm : n ≤ m) (a b c d : Value) : Below n w (set4 W m a b c d) :=
  (((h.setCell hm _).setCell hm _).setCell hm _).setCell hm _

set_option maxHeartbeats 1000000 in
theorem get_any {n₀ : Nat} {p : Nat} {L : Vl} {kv vv : Value} (x : ByteArray) (w : World) (h : OrdAt n₀ w p L kv vv) :
    Calls Try.prog 30 #[.pointer (some ⟨p, 0, none⟩), .string x] w fun e w' => e = .returned (.tuple #[.agg (vcs (got L x)).toArray, .bool (has (ks L) x)]) ∧ Below w.heap.size w w' := by
  obtain ⟨a0, n0, rfl⟩ := ownsRow_slice h.keys
  obtain ⟨a1, n1, rfl⟩ := ownsRow_slice h.vals
  have hl := h.len
  have hp : p < w.heap.size := block_of_cell h.c0
  have h0 : ∀ o, (w.alloc o).cell? ⟨p, 0, none⟩ = _ := fun o => (cell_alloc o hp).trans h.c0
  obtain ⟨m, hm⟩ : ∃ m, w.heap.size = m := ⟨_, rfl⟩
  have hnew : ∀ (q : Nat) (W : World), W = (w.alloc (.cells #[.string { data := #[] }, .bool false, .bool false, .bool false] 68)).drewN q → Blk W m 68 #[.string { data := #[] }, .bool false, .bool false, .bool false] ∧ Below m w W ∧ W.heap.size = m + 1 := fun q W e => by
    subst e
    refine ⟨?_, ?_, ?_⟩
    · rw [← hm]; exact Blk.new w 68 _
    · exact Below.drewN_ q ((Below.refl m w).alloc (by omega) _)
    · rw [← hm]; simp [World.drewN]
  cases hh : has (ks L) x with
  | false =>
    have hgot : Hid (got L x = Vb.no) := Lib.hid (by unfold got; rw [hh]; rfl)
    have hH := Lib.hid h
    have hhH := Lib.hid hh
    have hmH := Lib.hid hm
    have hnewH := Lib.hid hnew
    clear h hh hm hnew
    go_enter Try.func30, Try.ntmps30
    go_wp2_with fail
    refine (search_any n₀ (ks L) x _ _ (hH.out.keys.alloc _) (by rw [ks_len]; omega) hH.out.srt).mono ?_
    rintro e W ⟨rfl, q, e2⟩
    rw [hhH.out, hmH.out]
    obtain ⟨hB, hBel, hS⟩ := hnewH.out q W e2
    have hQ : ∀ o, Blk (W.alloc o) m 68 _ := fun o => hB.alloc o
    have hQB : ∀ o, Below m w (W.alloc o) := fun o => hBel.alloc (by omega) o
    obtain ⟨W1, hW1⟩ : ∃ W1, W.alloc (.cells #[.string { data := #[] }, .bool false, .bool false, .bool false] 68) = W1 := ⟨_, rfl⟩
    have hR := hQ (.cells #[.string { data := #[] }, .bool false, .bool false, .bool false] 68)
    have hRB := hQB (.cells #[.string { data := #[] }, .bool false, .bool false, .bool false] 68)
    have hN : Blk W1 (m + 1) 68 #[.string { data := #[] }, .bool false, .bool false, .bool false] := by rw [← hW1, ← hS]; exact Blk.new W 68 _
    rw [hW1] at hR hRB
    obtain ⟨⟨l0, l1, l2, l3⟩, _⟩ := blk4 hN
    obtain ⟨⟨k0, k1, k2, k3⟩, f0, f1, f2, f3⟩ := blk4 hR
    have hW1H := Lib.hid hW1
    have hRH := Lib.hid hR
    have hRBH := Lib.hid hRB
    clear e2 hB hBel hQ hQB hW1 hR hRB hN
    go_wp2_with (rw [hW1H.out])
    obtain ⟨X, hX⟩ : ∃ X, set4 W1 m (.string { data := #[] }) (.bool false) (.bool false) (.bool false) = X := ⟨_, rfl⟩
    have hXb := set4_blk (a' := .string { data := #[] }) (b' := .bool false) (c' := .bool false) (d' := .bool false) hRH.out
    have hXB := set4_below hRBH.out (Nat.le_refl m) (.string { data := #[] }) (.bool false) (.bool false) (.bool false)
    rw [hX] at hXb hXB
    unfold set4 at hX
    rw [hX]
    obtain ⟨⟨q0, q1, q2, q3⟩, _⟩ := blk4 hXb
    exact bodyPost_ret (v := .tuple #[.agg #[.string { data := #[] }, .bool false, .bool false, .bool false], .bool false]) (by simp [results, Try.f30, go_sem, q0, q1, q2, q3]) rfl ⟨by rw [hgot.out]; rfl, by rw [hmH.out]; exact hXB⟩
  | true =>
    have hlt := has_lt hh
    have hvl : pos (ks L) x < (vs L).length := by rw [vs_len, ← ks_len]; exact hlt
    obtain ⟨y, hy⟩ : ∃ y, (vs L)[pos (ks L) x]? = some y := ⟨_, List.getElem?_eq_getElem hvl⟩
    have hgot : Hid (got L x = y) := Lib.hid (by unfold got; rw [hh, hy]; rfl)
    obtain ⟨g, cap, e1, hg0, hc, hf, hcap⟩ := row_at vcs_len h.vals hy
    obtain ⟨rfl, rfl⟩ : a1 = some ⟨g, 0, none⟩ ∧ n1 = cap := by simpa using e1
    obtain ⟨i, hi⟩ : ∃ i, pos (ks L) x = i := ⟨_, rfl⟩
    rw [hi] at hc hvl hlt
    have hgl : g < w.heap.size := block_of_cell (hc 0 _ rfl)
    obtain ⟨n, hn⟩ : ∃ n, (vs L).length = n := ⟨_, rfl⟩
    have hp1 := h.c1
    rw [hn] at hvl hp1
    have hH := Lib.hid h
    have hhH := Lib.hid hh
    have hiH := Lib.hid hi
    have hmH := Lib.hid hm
    have hnewH := Lib.hid hnew
    have hcH := Lib.hid hc
    have hp1H := Lib.hid hp1
    clear h hh hc hi e1 hy hf hm hnew hp1
    have hvl' : (i : Int) < (n : Int) := by omega
    go_enter Try.func30, Try.ntmps30
    go_wp2_with fail
    refine (search_any n₀ (ks L) x _ _ (hH.out.keys.alloc _) (by rw [ks_len]; omega) hH.out.srt).mono ?_
    rintro e W ⟨rfl, q, e2⟩
    rw [hhH.out, hiH.out, hmH.out]
    obtain ⟨hR, hBel, _⟩ := hnewH.out q W e2
    rw [hmH.out] at hgl hp
    have hp1W := (hBel.cell (p := ⟨p, 1, none⟩) hp).trans hp1H.out
    have c0 := (hBel.cell (p := ⟨g, i * 4 + 0, none⟩) hgl).trans (hcH.out 0 _ rfl)
    have c1 := (hBel.cell (p := ⟨g, i * 4 + 1, none⟩) hgl).trans (hcH.out 1 _ rfl)
    have c2 := (hBel.cell (p := ⟨g, i * 4 + 2, none⟩) hgl).trans (hcH.out 2 _ rfl)
    have c3 := (hBel.cell (p := ⟨g, i * 4 + 3, none⟩) hgl).trans (hcH.out 3 _ rfl)
    rw [Nat.add_zero] at c0
    obtain ⟨⟨k0, k1, k2, k3⟩, f0, f1, f2, f3⟩ := blk4 hR
    have hRH := Lib.hid hR
    have hBelH := Lib.hid hBel
    clear e2 hBel hR
    go_wp2_with fail
    obtain ⟨X, hX⟩ : ∃ X, set4 W m (.string y.val) (.bool y.st) (.bool y.ex) (.bool y.ro) = X := ⟨_, rfl⟩
    have hXb := set4_blk (a' := .string y.val) (b' := .bool y.st) (c' := .bool y.ex) (d' := .bool y.ro) hRH.out
    have hXB := set4_below hBelH.out (Nat.le_refl m) (.string y.val) (.bool y.st) (.bool y.ex) (.bool y.ro)
    rw [hX] at hXb hXB
    unfold set4 at hX
    rw [hX]
    obtain ⟨⟨q0, q1, q2, q3⟩, _⟩ := blk4 hXb
    exact bodyPost_ret (v := .tuple #[.agg #[.string y.val, .bool y.st, .bool y.ex, .bool y.ro], .bool true]) (by simp [results, Try.f30, go_sem, q0, q1, q2, q3]) rfl ⟨by rw [hgot.out]; rfl, by rw [hmH.out]; exact hXB⟩

theorem ret_bool {a b : Bool} (h : a = b) : Ending.returned (.bool a) = .returned (.bool b) := by rw [h]
/-- The variables and the parameters. -/
structure VarsAt (n₀ : Nat) (w : World) (p : Nat) (L : Vl) (A : List ByteArray) (kv vv av : Value) : Prop where
  blk : Blk w p 65 #[kv, vv, av]
  base : n₀ ≤ p
  keys : w.ownsRow n₀ 9 1 kv (ks L).length (flat kcs (ks L))
  vals : w.ownsRow n₀ 68 4 vv (vs L).length (flat vcs (vs L))
  args : w.ownsRow n₀ 9 1 av A.length (flat kcs A)
  apart : ∀ g, kv.ownBlock = some g → av.ownBlock ≠ some g
  srt : Sorted (ks L)
  len : L.length ≤ 64
  alen : A.length ≤ 200

theorem VarsAt.ord {n₀ : Nat} {w : World} {p : Nat} {L : Vl} {A : List ByteArray} {kv vv av : Value} (h : VarsAt n₀ w p L A kv vv av) : OrdAt n₀ w p L kv vv :=
  ⟨h.blk.cell 0, h.blk.cell 1, h.keys, h.vals, h.srt, h.len⟩

theorem row_keep {w w1 : World} {base : Nat} {e : TypeId} {size : Nat} {v : Value} {n : Nat} {xs : List Value} (h : w.ownsRow base e size v n xs) (hb : ∀ g, v.ownBlock = some g → w1.heap[g]? = w.heap[g]?) : w1.ownsRow base e size v n xs := by
  refine ⟨h.1, ?_⟩
  rcases h.2 with h | ⟨g, cap, cur, e1, e2, e3, e4⟩
  · exact .inl h
  · refine .inr ⟨g, cap, cur, e1, e2, ?_, e4⟩
    rw [hb g (by rw [e1]; rfl)]; exact e3
theorem row_lt {w : World} {base : Nat} {e : TypeId} {size : Nat} {v : Value} {n : Nat} {xs : List Value} (h : w.ownsRow base e size v n xs) {g : Nat} (hg : v.ownBlock = some g) : g < w.heap.size := (h.lt g hg).2
theorem row_beneath {w w1 : World} {base : Nat} {e : TypeId} {size : Nat} {v : Value} {n : Nat} {xs : List Value} (h : w.ownsRow base e size v n xs) (hb : Below w.heap.size w w1) : w1.ownsRow base e size v n xs :=
  row_keep h (fun g hg => hb.block g (row_lt h hg))
theorem blk_beneath {w w1 : World} {g : Nat} {t : TypeId} {cs : Array Value} (h : Blk w g t cs) (hb : Below w.heap.size w w1) : Blk w1 g t cs := (hb.block g h.lt).trans h

theorem VarsAt.beneath {n₀ : Nat} {w w1 : World} {p : Nat} {L : Vl} {A : List ByteArray} {kv vv av : Value} (h : VarsAt n₀ w p L A kv vv av) (hb : Below w.heap.size w w1) : VarsAt n₀ w1 p L A kv vv av :=
  ⟨blk_beneath h.blk hb, h.base, row_beneath h.keys hb, row_beneath h.vals hb, row_beneath h.args hb, h.apart, h.srt, h.len, h.alen⟩

set_option maxHeartbeats 1000000 in
theorem new_any (n₀ : Nat) (w : World) (hn : n₀ ≤ w.heap.size) :
    Calls Try.prog 9 #[] w fun e w' => e = .returned (.pointer (some ⟨w.heap.size, 0, none⟩)) ∧ Below w.heap.size w w' ∧ VarsAt n₀ w' w.heap.size [] [] (.slice none 0 0) (.slice none 0 0) (.slice none 0 0) := by
  go_enter Try.func9, Try.ntmps9
  go_wp2_with fail
  go_ret
  refine ⟨rfl, (Below.refl _ _).alloc (Nat.le_refl _) _, Blk.new w 65 _, hn, World.ownsRow_nil _ _ _ _, World.ownsRow_nil _ _ _ _, World.ownsRow_nil _ _ _ _, fun g hg => ?_, List.Pairwise.nil, Nat.zero_le _, Nat.zero_le _⟩
  simp [Value.ownBlock] at hg

set_option maxHeartbeats 1000000 in
theorem count_any {p : Nat} {a : Option Addr} {n c : Nat} (w : World) (h0 : w.cell? ⟨p, 0, none⟩ = some (.slice a n c)) :
    Calls Try.prog 46 #[.pointer (some ⟨p, 0, none⟩)] w fun e w' => e = .returned (.int .i64 n) ∧ w' = w := by
  go_enter Try.func46, Try.ntmps46
  go_wp2_with fail
  go_ret
  exact ⟨rfl, rfl⟩

set_option maxHeartbeats 1000000 in
theorem isFull_any {n₀ p : Nat} {L : Vl} {A : List ByteArray} {kv vv av : Value} (w : World) (h : VarsAt n₀ w p L A kv vv av) :
    Calls Try.prog 31 #[.pointer (some ⟨p, 0, none⟩)] w fun e w' => e = .returned (.bool (decide (64 ≤ L.length))) ∧ w' = w := by
  obtain ⟨a0, n0, rfl⟩ := ownsRow_slice h.keys
  have h0 : w.cell? ⟨p, 0, none⟩ = _ := h.blk.cell 0
  rw [ks_len] at h0
  clear h
  go_enter Try.func31, Try.ntmps31
  go_wp2_with fail
  refine (count_any w h0).mono ?_
  rintro e w' ⟨rfl, rfl⟩
  go_wp2_with fail
  go_ret
  exact ⟨ret_bool (by rw [decide_eq_decide]; omega), rfl⟩

theorem got_no {L : Vl} {x : ByteArray} (h : has (ks L) x = false) : got L x = Vb.no := by unfold got; rw [h]; rfl

set_option maxHeartbeats 1000000 in
/-- Of no variables. -/
theorem getNil_any (x : ByteArray) (w : World) : Calls Try.prog 22 #[.pointer none, .string x] w fun e w' => e = .returned (.tuple #[.string { data := #[] }, .bool false]) ∧ w' = w := by
  go_enter Try.func22, Try.ntmps22
  go_wp2_with fail
  go_ret2
  exact ⟨rfl, rfl⟩

set_option maxHeartbeats 1000000 in
theorem Get_any {n₀ p : Nat} {L : Vl} {A : List ByteArray} {kv vv av : Value} (x : ByteArray) (w : World) (h : VarsAt n₀ w p L A kv vv av) :
    Calls Try.prog 22 #[.pointer (some ⟨p, 0, none⟩), .string x] w fun e w' => e = .returned (.tuple #[.string (got L x).val, .bool (got L x).st]) ∧ Below w.heap.size w w' := by
  have hO := Lib.hid h.ord
  obtain ⟨y, hy⟩ : ∃ y, got L x = y := ⟨_, rfl⟩
  have hyH := Lib.hid hy
  rw [hy]
  clear h hy
  go_enter Try.func22, Try.ntmps22
  go_wp2_with fail
  refine (get_any x w hO.out).mono ?_
  rintro e W ⟨rfl, hB⟩
  rw [hyH.out]
  unfold vcs
  obtain ⟨z0, hz⟩ : ∃ z0, (.bool (has (ks L) x) : Value) = z0 := ⟨_, rfl⟩
  rw [hz]
  clear hz
  have hBH := Lib.hid hB
  clear hB
  go_wp2_with fail
  go_region
  all_goals
    go_wp2_with fail
    go_ret2
    exact ⟨rfl, (hBH.out.alloc hBH.out.size _).drew⟩

end Go.Proofs.Ytklepnldoajghaa
