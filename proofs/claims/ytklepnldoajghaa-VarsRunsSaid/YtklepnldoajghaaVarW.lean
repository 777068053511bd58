/- The walk of the law VarsShifts: true at every input. No condition. -/
import Derived.Test.YtklepnldoajghaaVarV
namespace Go.Proofs.Ytklepnldoajghaa
open Go.RowKit Go.Shelf Go.PlainAid
attribute [local go_sem] Oper.semAt_some

abbrev nilS : Value := .slice none 0 0
/-- Two sets of variables of which each has parameters alone. -/
structure Two (n₀ : Nat) (w0 w : World) (p q : Nat) (A B : List ByteArray) : Prop where
  fst : ∃ av, VarsAt n₀ w p [] A nilS nilS av
  snd : ∃ av, VarsAt n₀ w q [] B nilS nilS av
  ne : p ≠ q
  below : Below n₀ w0 w
  size : n₀ ≤ w.heap.size

theorem EndsA.below {n₀ p : Nat} {L : Vl} {A : List ByteArray} {kv vv : Value} {w w' : World} (h : EndsA n₀ p L A kv vv w w') (hp : n₀ ≤ p) (hn0 : n₀ ≤ w.heap.size) : Below n₀ w w' := by
  obtain ⟨_, _, _, _, hb⟩ := h.b hp hn0
  exact hb
theorem VarsAt.far {n₀ p q : Nat} {L : Vl} {B : List ByteArray} {kv vv av : Value} {w w' : World} {u : Array Value} (h : VarsAt n₀ w q L B kv vv av) (hp : Blk w p 65 u) (hne : p ≠ q) (ht : Turned p nilS nilS w w') : VarsAt n₀ w' q L B kv vv av := by
  have hblk : ∀ g, g < w.heap.size → g ≠ p → w'.heap[g]? = w.heap[g]? := fun g h1 h2 => ht.block g h1 h2 (fun e => by cases e) (fun e => by cases e)
  have hrow : ∀ {e : TypeId} {n k : Nat} {v : Value} {xs : List Value}, w.ownsRow n₀ e k v n xs → 65 ≠ e → w'.ownsRow n₀ e k v n xs := fun {e n k v xs} hr he =>
    row_keep hr (fun g hg => hblk g (row_lt hr hg) (fun e2 => by subst e2; exact row_off hp he hr hg.symm))
  exact ⟨(hblk q h.blk.lt (Ne.symm hne)).trans h.blk, h.base, hrow h.keys (by decide), hrow h.vals (by decide), hrow h.args (by decide), h.apart, h.srt, h.len, h.alen⟩
theorem Two.one {n₀ p q : Nat} {w0 w w' : World} {A B A' : List ByteArray} (h : Two n₀ w0 w p q A B) (he : EndsA n₀ p [] A' nilS nilS w w') : Two n₀ w0 w' p q A' B := by
  obtain ⟨av, h1⟩ := h.fst
  obtain ⟨bv, h2⟩ := h.snd
  have hb := he.below h1.base h.size
  obtain ⟨av', h3, h4, _⟩ := he
  exact ⟨⟨av', h3⟩, ⟨bv, h2.far h1.blk h.ne h4⟩, h.ne, h.below.trans hb, Nat.le_trans h.size h4.size⟩
theorem Two.swap {n₀ p q : Nat} {w0 w : World} {A B : List ByteArray} (h : Two n₀ w0 w p q A B) : Two n₀ w0 w q p B A := ⟨h.snd, h.fst, Ne.symm h.ne, h.below, h.size⟩
theorem Two.two {n₀ p q : Nat} {w0 w w' : World} {A B B' : List ByteArray} (h : Two n₀ w0 w p q A B) (he : EndsA n₀ q [] B' nilS nilS w w') : Two n₀ w0 w' p q A B' := (h.swap.one he).swap
theorem Two.on {n₀ p q : Nat} {w0 w w' : World} {A B : List ByteArray} (h : Two n₀ w0 w p q A B) (hb : Below w.heap.size w w') : Two n₀ w0 w' p q A B := by
  obtain ⟨av, h1⟩ := h.fst
  obtain ⟨bv, h2⟩ := h.snd
  exact ⟨⟨av, h1.beneath hb⟩, ⟨bv, h2.beneath hb⟩, h.ne, h.below.trans (hb.mono h.size), Nat.le_trans h.size hb.size⟩
theorem Two.tx {n₀ p q : Nat} {w0 w : World} {A B K : List ByteArray} {v : Value} (h : Two n₀ w0 w p q A B) (hn : w0.heap.size = n₀) (hv : TxAt w0 v K) : TxAt w v K := hv.beneath (by rw [hn]; exact h.below)

theorem two_set1 {n₀ p q : Nat} {w0 w : World} {A B K : List ByteArray} {v : Value} (h : Two n₀ w0 w p q A B) (hn : w0.heap.size = n₀) (hv : TxAt w0 v K) (hK : K.length ≤ 200) :
    Calls Try.prog 16 #[.pointer (some ⟨p, 0, none⟩), v] w fun e w' => e = .returned (.int .i64 0) ∧ Two n₀ w0 w' p q K B := by
  obtain ⟨av, h1⟩ := h.fst
  exact (setArgs_any w h1 h.size (h.tx hn hv) hK).mono fun _ _ ⟨he, hw⟩ => ⟨he, h.one hw⟩
theorem two_set2 {n₀ p q : Nat} {w0 w : World} {A B K : List ByteArray} {v : Value} (h : Two n₀ w0 w p q A B) (hn : w0.heap.size = n₀) (hv : TxAt w0 v K) (hK : K.length ≤ 200) :
    Calls Try.prog 16 #[.pointer (some ⟨q, 0, none⟩), v] w fun e w' => e = .returned (.int .i64 0) ∧ Two n₀ w0 w' p q A K :=
  (two_set1 h.swap hn hv hK).mono fun _ _ ⟨he, hw⟩ => ⟨he, hw.swap⟩
theorem two_shift1 {n₀ p q : Nat} {w0 w : World} {A B : List ByteArray} (k : Nat) (h : Two n₀ w0 w p q A B) (hk : k ≤ A.length) :
    Calls Try.prog 18 #[.pointer (some ⟨p, 0, none⟩), .int .i64 k] w fun e w' => e = .returned (.int .i64 0) ∧ Two n₀ w0 w' p q (A.drop k) B := by
  obtain ⟨av, h1⟩ := h.fst
  exact (shift_yes k w h1 h.size hk).mono fun _ _ ⟨he, hw⟩ => ⟨he, h.one hw⟩
theorem two_shift2 {n₀ p q : Nat} {w0 w : World} {A B : List ByteArray} (k : Nat) (h : Two n₀ w0 w p q A B) (hk : k ≤ B.length) :
    Calls Try.prog 18 #[.pointer (some ⟨q, 0, none⟩), .int .i64 k] w fun e w' => e = .returned (.int .i64 0) ∧ Two n₀ w0 w' p q A (B.drop k) :=
  (two_shift1 k h.swap hk).mono fun _ _ ⟨he, hw⟩ => ⟨he, hw.swap⟩
theorem two_bad1 {n₀ p q : Nat} {w0 w : World} {A B : List ByteArray} (k : Int) (h : Two n₀ w0 w p q A B) (hk : (A.length : Int) < k) :
    Calls Try.prog 18 #[.pointer (some ⟨p, 0, none⟩), .int .i64 k] w fun e w' => e = .returned (.int .i64 22) ∧ w' = w := by
  obtain ⟨av, h1⟩ := h.fst
  exact shift_no k w h1 (.inr hk)
theorem two_bad2 {n₀ p q : Nat} {w0 w : World} {A B : List ByteArray} (k : Int) (h : Two n₀ w0 w p q A B) (hk : (B.length : Int) < k) :
    Calls Try.prog 18 #[.pointer (some ⟨q, 0, none⟩), .int .i64 k] w fun e w' => e = .returned (.int .i64 22) ∧ w' = w := two_bad1 k h.swap hk
theorem two_args1 {n₀ p q : Nat} {w0 w : World} {A B : List ByteArray} (h : Two n₀ w0 w p q A B) :
    Calls Try.prog 26 #[.pointer (some ⟨p, 0, none⟩)] w fun e w' => ∃ v', e = .returned v' ∧ TxAt w' v' A ∧ Two n₀ w0 w' p q A B := by
  obtain ⟨av, h1⟩ := h.fst
  exact (Args_any w h1).mono fun _ _ ⟨v', he, hr, hb⟩ => ⟨v', he, .of_row hr, h.on hb⟩
theorem two_args2 {n₀ p q : Nat} {w0 w : World} {A B : List ByteArray} (h : Two n₀ w0 w p q A B) :
    Calls Try.prog 26 #[.pointer (some ⟨q, 0, none⟩)] w fun e w' => ∃ v', e = .returned v' ∧ TxAt w' v' B ∧ Two n₀ w0 w' p q A B :=
  (two_args1 h.swap).mono fun _ _ ⟨v', he, hr, hw⟩ => ⟨v', he, hr, hw.swap⟩
theorem two_texts {n₀ p q : Nat} {w0 w : World} {A B K : List ByteArray} {v1 v2 : Value} (h : Two n₀ w0 w p q A B) (h1 : TxAt w v1 K) (h2 : TxAt w v2 K) (hm : K.length ≤ 100000) :
    Calls Try.prog 28 #[v1, v2] w fun e w' => e = .returned (.bool true) ∧ Two n₀ w0 w' p q A B :=
  (texts_same w h1 h2 hm).mono fun _ _ ⟨he, hb⟩ => ⟨he, h.on hb⟩
theorem two_new {n₀ p : Nat} {w0 w : World} (hV : ∃ av, VarsAt n₀ w p [] [] nilS nilS av) (hb : Below n₀ w0 w) (hz : n₀ ≤ w.heap.size) :
    Calls Try.prog 9 #[] w fun e w' => ∃ q, e = .returned (.pointer (some ⟨q, 0, none⟩)) ∧ Two n₀ w0 w' p q [] [] := by
  obtain ⟨av, hV⟩ := hV
  exact (new_any n₀ w hz).mono fun _ _ ⟨he, hB, hV2⟩ => ⟨_, he, ⟨_, hV.beneath hB⟩, ⟨_, hV2⟩, Nat.ne_of_lt hV.blk.lt, hb.trans (hB.mono hz), Nat.le_trans hz hB.size⟩

/-- The texts from a place on. -/
theorem TxAt.drop_at {w : World} {b off c k : Nat} {K : List ByteArray} (h : TxAt w (.slice (some ⟨b, off, none⟩) K.length c) K) (hk : k ≤ K.length) : TxAt w (.slice (some ⟨b, off + k, none⟩) (K.length - k) (c - k)) (K.drop k) := by
  rcases h with ⟨e, _⟩ | ⟨b', off', c', e, hc, h⟩
  · cases e
  · obtain ⟨⟨rfl, rfl⟩, rfl⟩ : (b = b' ∧ off = off') ∧ c = c' := by simpa using e
    have hl : (K.drop k).length = K.length - k := List.length_drop
    refine .inr ⟨b, off + k, c - k, by rw [hl], by omega, fun j u hj => ?_⟩
    rw [← flat_drop_k K k hk, List.getElem?_drop] at hj
    have := h (k + j) u hj
    rwa [← Nat.add_assoc] at this
theorem TxAt.drop_all {w : World} {b off n : Nat} {K : List ByteArray} {k : Nat} (hn : n = 0) (hk : K.length ≤ k) : TxAt w (.slice (some ⟨b, off, none⟩) n 0) (K.drop k) := by
  have e : K.drop k = [] := List.drop_eq_nil_of_le hk
  subst hn
  rw [e]
  exact .inr ⟨b, off, 0, rfl, Nat.le_refl _, fun j u hj => by simp [flat] at hj⟩
end Go.Proofs.Ytklepnldoajghaa
