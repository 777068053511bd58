/- What the law VarsRuns holds between its calls: the pair, a block of a call, each call on it; pairs laid aside. No condition. -/
import Derived.Test.YtklepnldoajghaaVarCR
import Derived.Test.YtklepnldoajghaaVarCH
import Derived.Test.YtklepnldoajghaaVarAC
namespace Go.Proofs.Ytklepnldoajghaa
section
open Go.RowKit Go.PlainAid

theorem VarsAt.keep {n₀ p : Nat} {L : Vl} {A : List ByteArray} {kv vv av : Value} {w w' : World} (h : VarsAt n₀ w p L A kv vv av) (hp : w'.heap[p]? = w.heap[p]?) (hk : ∀ g, kv.ownBlock = some g → w'.heap[g]? = w.heap[g]?) (hv : ∀ g, vv.ownBlock = some g → w'.heap[g]? = w.heap[g]?) (ha : ∀ g, av.ownBlock = some g → w'.heap[g]? = w.heap[g]?) : VarsAt n₀ w' p L A kv vv av :=
  ⟨hp.trans h.blk, h.base, row_keep h.keys hk, row_keep h.vals hv, row_keep h.args ha, h.apart, h.srt, h.len, h.alen⟩
theorem RefAt.keep {n₀ q : Nat} {L : Vl} {A : List ByteArray} {lv aw : Value} {w w' : World} (h : RefAt n₀ w q L A lv aw) (hq : w'.heap[q]? = w.heap[q]?) (hl : ∀ g, lv.ownBlock = some g → w'.heap[g]? = w.heap[g]?) (ha : ∀ g, aw.ownBlock = some g → w'.heap[g]? = w.heap[g]?) : RefAt n₀ w' q L A lv aw :=
  ⟨hq.trans h.blk, h.base, row_keep h.list hl, tx_keep h.args (fun g hg _ => ha g hg), h.abase, h.srt, h.len, h.alen⟩
theorem blk_ne {w : World} {p q : Nat} {t e : TypeId} {cs ds : Array Value} (h : Blk w p t cs) (k : Blk w q e ds) (hne : t ≠ e) : p ≠ q := fun e' => by
  subst e'
  have := (h.symm.trans k)
  simp at this
  exact hne this.2

theorem blk_at {w : World} {g : Nat} {t : TypeId} (h : ∃ cs, Blk w g t cs) : g < w.heap.size := h.elim fun _ h => h.lt

/-- The program's variables, the reference's, a call's block. -/
structure Cur (n₁ : Nat) (w : World) (p q : Nat) (L : Vl) (A : List ByteArray) (L2 : Vl) (A2 : List ByteArray) (m : Nat) (cs : Array Value) (kv vv av lv aw : Value) : Prop where
  v : VarsAt n₁ w p L A kv vv av
  r : RefAt n₁ w q L2 A2 lv aw
  apart : ∀ g, aw.ownBlock = some g → kv.ownBlock ≠ some g ∧ vv.ownBlock ≠ some g ∧ g ≠ p
  alt : ∀ g, aw.ownBlock = some g → ∃ cs, Blk w g 9 cs
  blk : Blk w m 34 cs
  base : n₁ ≤ w.heap.size
def CurE (n₁ : Nat) (w : World) (p q : Nat) (L : Vl) (A : List ByteArray) (L2 : Vl) (A2 : List ByteArray) (m : Nat) (cs : Array Value) : Prop := ∃ kv vv av lv aw, Cur n₁ w p q L A L2 A2 m cs kv vv av lv aw

section
variable {n₁ p q m : Nat} {L L2 L' : Vl} {A A2 A' : List ByteArray} {kv vv av lv aw : Value} {cs : Array Value} {w w' : World}

theorem Cur.turned (h : Cur n₁ w p q L A L2 A2 m cs kv vv av lv aw) {kv0 vv0 kv' vv' av' : Value} (hk0 : kv0 = kv ∨ kv0.ownBlock = none) (hv0 : vv0 = vv ∨ vv0.ownBlock = none) (h1 : VarsAt n₁ w' p L' A' kv' vv' av') (h2 : Turned p kv0 vv0 w w')
    (h3 : ∀ g, kv'.ownBlock = some g → kv.ownBlock = some g ∨ w.heap.size ≤ g) (h4 : ∀ g, vv'.ownBlock = some g → vv.ownBlock = some g ∨ w.heap.size ≤ g) : CurE n₁ w' p q L' A' L2 A2 m cs ∧ Below n₁ w w' := by
  have far : ∀ g, g < w.heap.size → g ≠ p → some g ≠ kv.ownBlock → some g ≠ vv.ownBlock → w'.heap[g]? = w.heap[g]? := fun g hg a b c => h2.block g hg a
    (by rcases hk0 with e | e
        · rw [e]; exact b
        · rw [e]; simp) (by
      rcases hv0 with e | e
      · rw [e]; exact c
      · rw [e]; simp)
  have hq : w'.heap[q]? = w.heap[q]? := far q h.r.blk.lt (blk_ne h.r.blk h.v.blk (by decide)) (row_off h.r.blk (by decide) h.v.keys) (row_off h.r.blk (by decide) h.v.vals)
  have hl : ∀ g, lv.ownBlock = some g → w'.heap[g]? = w.heap[g]? := fun g hg => far g (row_lt h.r.list hg) (fun e => by subst e; exact row_off h.v.blk (by decide) h.r.list hg.symm) (row_row (by decide) h.r.list h.v.keys hg) (row_row (by decide) h.r.list h.v.vals hg)
  have ha : ∀ g, aw.ownBlock = some g → w'.heap[g]? = w.heap[g]? := fun g hg => far g (blk_at (h.alt g hg)) (h.apart g hg).2.2 (fun e => (h.apart g hg).1 e.symm) (fun e => (h.apart g hg).2.1 e.symm)
  have hm : w'.heap[m]? = w.heap[m]? := far m h.blk.lt (blk_ne h.blk h.v.blk (by decide)) (row_off h.blk (by decide) h.v.keys) (row_off h.blk (by decide) h.v.vals)
  refine ⟨⟨kv', vv', av', lv, aw, h1, h.r.keep hq hl ha, fun g hg => ⟨fun e => ?_, fun e => ?_, (h.apart g hg).2.2⟩, fun g hg => by obtain ⟨c, hc⟩ := h.alt g hg; exact ⟨c, (ha g hg).trans hc⟩, hm.trans h.blk, Nat.le_trans h.base h2.size⟩, h2.os, h2.tape, h2.output, h2.size, fun k hk => far k (Nat.lt_of_lt_of_le hk h.base) (fun e => by have := h.v.base; omega) (fun e => by have := (h.v.keys.lt k e.symm).1; omega) (fun e => by have := (h.v.vals.lt k e.symm).1; omega)⟩
  · rcases h3 g e with e | e
    · exact (h.apart g hg).1 e
    · have := blk_at (h.alt g hg); omega
  · rcases h4 g e with e | e
    · exact (h.apart g hg).2.1 e
    · have := blk_at (h.alt g hg); omega

theorem Cur.ends (h : Cur n₁ w p q L A L2 A2 m cs kv vv av lv aw) (hE : Ends n₁ p L' A kv vv av w w') : CurE n₁ w' p q L' A L2 A2 m cs ∧ Below n₁ w w' := by
  obtain ⟨kv', vv', h1, h2, h3, h4⟩ := hE
  exact h.turned (.inl rfl) (.inl rfl) h1 h2 h3 h4
theorem Cur.endsA (h : Cur n₁ w p q L A L2 A2 m cs kv vv av lv aw) (hE : EndsA n₁ p L A' kv vv w w') : CurE n₁ w' p q L A' L2 A2 m cs ∧ Below n₁ w w' := by
  obtain ⟨av', h1, h2, _⟩ := hE
  exact h.turned (.inr rfl) (.inr rfl) h1 h2 (fun _ h => .inl h) (fun _ h => .inl h)
theorem Cur.rends (h : Cur n₁ w p q L A L2 A2 m cs kv vv av lv aw) (hE : REnds n₁ q L' A' w w') : CurE n₁ w' p q L A L' A' m cs ∧ Below n₁ w w' := by
  obtain ⟨lv', aw', h1, h2, h3⟩ := hE
  have far : ∀ g, g < w.heap.size → g ≠ q → w'.heap[g]? = w.heap[g]? := h2.block
  have hp : w'.heap[p]? = w.heap[p]? := far p h.v.blk.lt (blk_ne h.v.blk h.r.blk (by decide))
  have row : ∀ {e : TypeId} {s n : Nat} {v : Value} {xs : List Value}, w.ownsRow n₁ e s v n xs → 30 ≠ e → ∀ g, v.ownBlock = some g → w'.heap[g]? = w.heap[g]? := fun hr he g hg => far g (row_lt hr hg) (fun e => by subst e; exact row_off h.r.blk he hr hg.symm)
  have hm : w'.heap[m]? = w.heap[m]? := far m h.blk.lt (blk_ne h.blk h.r.blk (by decide))
  have key : ∀ g, aw'.ownBlock = some g → aw.ownBlock = some g ∨ (w.heap.size ≤ g ∧ ∃ cs, Blk w' g 9 cs) := fun g hg => by
    rcases h3 h.r.blk.lt g hg with ⟨u, hu, hug⟩ | e
    · have : w.cell? ⟨q, 1, none⟩ = some aw := h.r.blk.cell 1
      rw [hu] at this
      obtain rfl := Option.some.inj this
      exact .inl hug
    · exact .inr e
  refine ⟨⟨kv, vv, av, lv', aw', h.v.keep hp (row h.v.keys (by decide)) (row h.v.vals (by decide)) (row h.v.args (by decide)), h1, fun g hg => ?_, fun g hg => ?_, hm.trans h.blk, Nat.le_trans h.base h2.size⟩, h2.os, h2.tape, h2.output, h2.size, fun k hk => far k (Nat.lt_of_lt_of_le hk h.base) (fun e => by have := h.r.base; omega)⟩
  · rcases key g hg with e | e
    · exact h.apart g e
    · refine ⟨fun e2 => ?_, fun e2 => ?_, fun e2 => ?_⟩
      · have := row_lt h.v.keys e2; omega
      · have := row_lt h.v.vals e2; omega
      · have := h.v.blk.lt; omega
  · rcases key g hg with e | e
    · obtain ⟨c, hc⟩ := h.alt g e
      exact ⟨c, (far g hc.lt (blk_ne hc h.r.blk (by decide))).trans hc⟩
    · exact e.2
theorem Cur.below (h : Cur n₁ w p q L A L2 A2 m cs kv vv av lv aw) (hb : Below w.heap.size w w') : Cur n₁ w' p q L A L2 A2 m cs kv vv av lv aw :=
  ⟨h.v.beneath hb, h.r.beneath hb, h.apart, fun g hg => by obtain ⟨c, hc⟩ := h.alt g hg; exact ⟨c, blk_beneath hc hb⟩, blk_beneath h.blk hb, Nat.le_trans h.base hb.size⟩
theorem CurE.below (h : CurE n₁ w p q L A L2 A2 m cs) (hb : Below w.heap.size w w') : CurE n₁ w' p q L A L2 A2 m cs ∧ Below n₁ w w' := by
  obtain ⟨kv, vv, av, lv, aw, h⟩ := h
  exact ⟨⟨_, _, _, _, _, h.below hb⟩, hb.mono h.base⟩

/-- What a call answers, and how it leaves all. -/
def Ans (n₁ : Nat) (w : World) (p q : Nat) (L : Vl) (A : List ByteArray) (L2 : Vl) (A2 : List ByteArray) (m : Nat) (cs : Array Value) (E : Int) (e : Ending) (w' : World) : Prop := e = .returned (.int .i64 E) ∧ CurE n₁ w' p q L A L2 A2 m cs ∧ Below n₁ w w'

theorem cur_set (x u : ByteArray) (h : CurE n₁ w p q L A L2 A2 m cs) (hx : x.size ≤ maxLen) : Calls Try.prog 10 #[.pointer (some ⟨p, 0, none⟩), .string x, .string u] w (Ans n₁ w p q (setR L x u) A L2 A2 m cs (setE L x u)) := by
  obtain ⟨kv, vv, av, lv, aw, h⟩ := h
  exact (Set_any x u w h.v h.base hx).mono fun e w' ⟨he, hE⟩ => ⟨he, h.ends hE⟩
theorem cur_setR (x u : ByteArray) (h : CurE n₁ w p q L A L2 A2 m cs) (hx : x.size ≤ maxLen) (hu : u.size ≤ maxLen) : Calls Try.prog 11 #[.pointer (some ⟨q, 0, none⟩), .string x, .string u] w (Ans n₁ w p q L A (setR L2 x u) A2 m cs (setE L2 x u)) := by
  obtain ⟨kv, vv, av, lv, aw, h⟩ := h
  exact (setR_any x u w h.r h.base hx hu).mono fun e w' ⟨he, hE⟩ => ⟨he, h.rends hE⟩
theorem cur_unset (x : ByteArray) (h : CurE n₁ w p q L A L2 A2 m cs) (hx : x.size ≤ maxLen) : Calls Try.prog 12 #[.pointer (some ⟨p, 0, none⟩), .string x] w (Ans n₁ w p q (unsetR L x) A L2 A2 m cs (unsetE L x)) := by
  obtain ⟨kv, vv, av, lv, aw, h⟩ := h
  exact (Unset_any x w h.v hx).mono fun e w' ⟨he, hE⟩ => ⟨he, h.ends hE⟩
theorem cur_unsetR (x : ByteArray) (h : CurE n₁ w p q L A L2 A2 m cs) (hx : x.size ≤ maxLen) : Calls Try.prog 13 #[.pointer (some ⟨q, 0, none⟩), .string x] w (Ans n₁ w p q L A (unsetR L2 x) A2 m cs (unsetE L2 x)) := by
  obtain ⟨kv, vv, av, lv, aw, h⟩ := h
  exact (unsetR_any x w h.r h.base hx).mono fun e w' ⟨he, hE⟩ => ⟨he, h.rends hE⟩
theorem cur_mark (x : ByteArray) (a b : Bool) (h : CurE n₁ w p q L A L2 A2 m cs) (hx : x.size ≤ maxLen) : Calls Try.prog 14 #[.pointer (some ⟨p, 0, none⟩), .string x, .bool a, .bool b] w (Ans n₁ w p q (markR L x a b) A L2 A2 m cs (markE L x a b)) := by
  obtain ⟨kv, vv, av, lv, aw, h⟩ := h
  exact (Mark_any x a b w h.v h.base hx).mono fun e w' ⟨he, hE⟩ => ⟨he, h.ends hE⟩
theorem cur_markR (x : ByteArray) (a b : Bool) (h : CurE n₁ w p q L A L2 A2 m cs) (hx : x.size ≤ maxLen) : Calls Try.prog 15 #[.pointer (some ⟨q, 0, none⟩), .string x, .bool a, .bool b] w (Ans n₁ w p q L A (markR L2 x a b) A2 m cs (markE L2 x a b)) := by
  obtain ⟨kv, vv, av, lv, aw, h⟩ := h
  exact (markR_any x a b w h.r h.base hx).mono fun e w' ⟨he, hE⟩ => ⟨he, h.rends hE⟩
def shE (A : List ByteArray) (n : Int) : Int := if n < 0 ∨ (A.length : Int) < n then 22 else 0
def shR (A : List ByteArray) (n : Int) : List ByteArray := if n < 0 ∨ (A.length : Int) < n then A else A.drop n.toNat
theorem cur_shift (n : Int) (h : CurE n₁ w p q L A L2 A2 m cs) : Calls Try.prog 18 #[.pointer (some ⟨p, 0, none⟩), .int .i64 n] w (Ans n₁ w p q L (shR A n) L2 A2 m cs (shE A n)) := by
  obtain ⟨kv, vv, av, lv, aw, h⟩ := h
  by_cases hn : n < 0 ∨ (A.length : Int) < n
  · unfold shR shE
    rw [if_pos hn, if_pos hn]
    exact (shift_no n w h.v hn).mono fun e w' ⟨he, hE⟩ => ⟨he, by rw [hE]; exact ⟨_, _, _, _, _, h⟩, by rw [hE]; exact Below.refl _ _⟩
  · unfold shR shE
    rw [if_neg hn, if_neg hn]
    obtain ⟨k, rfl⟩ := Int.eq_ofNat_of_zero_le (show 0 ≤ n by omega)
    exact (shift_yes k w h.v h.base (by omega)).mono fun e w' ⟨he, hE⟩ => ⟨he, h.endsA hE⟩
theorem cur_shiftR (n : Int) (h : CurE n₁ w p q L A L2 A2 m cs) : Calls Try.prog 19 #[.pointer (some ⟨q, 0, none⟩), .int .i64 n] w (Ans n₁ w p q L A L2 (shR A2 n) m cs (shE A2 n)) := by
  obtain ⟨kv, vv, av, lv, aw, h⟩ := h
  by_cases hn : n < 0 ∨ (A2.length : Int) < n
  · unfold shR shE
    rw [if_pos hn, if_pos hn]
    exact (shiftR_no n w h.r hn).mono fun e w' ⟨he, hE⟩ => ⟨he, by rw [hE]; exact ⟨_, _, _, _, _, h⟩, by rw [hE]; exact Below.refl _ _⟩
  · unfold shR shE
    rw [if_neg hn, if_neg hn]
    obtain ⟨k, rfl⟩ := Int.eq_ofNat_of_zero_le (show 0 ≤ n by omega)
    exact (shiftR_yes k w h.r (by omega)).mono fun e w' ⟨he, hE⟩ => ⟨he, h.rends hE⟩
theorem cur_get (x : ByteArray) (h : CurE n₁ w p q L A L2 A2 m cs) : Calls Try.prog 22 #[.pointer (some ⟨p, 0, none⟩), .string x] w fun e w' => e = .returned (.tuple #[.string (got L x).val, .bool (got L x).st]) ∧ CurE n₁ w' p q L A L2 A2 m cs ∧ Below n₁ w w' := by
  have h' := h
  obtain ⟨kv, vv, av, lv, aw, h⟩ := h
  exact (Get_any x w h.v).mono fun e w' ⟨he, hB⟩ => ⟨he, h'.below hB⟩
theorem cur_getR (x : ByteArray) (h : CurE n₁ w p q L A L2 A2 m cs) : Calls Try.prog 23 #[.pointer (some ⟨q, 0, none⟩), .string x] w fun e w' => e = .returned (.tuple #[.string (got L2 x).val, .bool (got L2 x).st]) ∧ CurE n₁ w' p q L A L2 A2 m cs ∧ Below n₁ w w' := by
  have h' := h
  obtain ⟨kv, vv, av, lv, aw, h⟩ := h
  exact (getR_any x w h.r).mono fun e w' ⟨he, hB⟩ => ⟨he, h'.below hB⟩
end

/-- What a name and a value hold at most. -/
def Szs (L : Vl) : Prop := ∀ x ∈ L, x.1.size ≤ 140737488355328 ∧ x.2.val.size ≤ 65536
theorem Szs.gotl {L : Vl} (h : Szs L) (hs : Sorted (ks L)) (x : ByteArray) : (got L x).val.size ≤ 65536 := by
  by_cases hh : has (ks L) x = true
  · obtain ⟨y, hy⟩ := of_ks ((has_iff hs).1 hh)
    rw [got_of hs hy]
    exact (h _ hy).2
  · unfold got
    rw [if_neg hh]
    decide
theorem Szs.setl {L : Vl} (h : Szs L) (hs : Sorted (ks L)) {x : ByteArray} {y : Vb} (hx : x.size ≤ 140737488355328) (hy : y.val.size ≤ 65536) : Szs (setL L x y) := fun ⟨z, u⟩ hz => by
  rcases (mem_setL hs).1 hz with ⟨rfl, rfl⟩ | ⟨_, hz⟩
  · exact ⟨hx, hy⟩
  · exact h _ hz
theorem Szs.set {L : Vl} (h : Szs L) (hs : Sorted (ks L)) {x u : ByteArray} (hx : x.size ≤ 140737488355328) : Szs (setR L x u) := by
  unfold setR
  by_cases h0 : setE L x u = 0
  · rw [if_pos h0]
    refine h.setl hs hx ?_
    show u.size ≤ 65536
    unfold setE at h0
    split at h0
    · cases h0
    · split at h0
      · cases h0
      · split at h0
        · cases h0
        · omega
  · rw [if_neg h0]
    exact h
theorem Szs.unset {L : Vl} (h : Szs L) (hs : Sorted (ks L)) {x : ByteArray} : Szs (unsetR L x) := by
  unfold unsetR
  by_cases h0 : unsetE L x = 0
  · rw [if_pos h0]
    exact fun ⟨z, u⟩ hz => h _ ((mem_cutL hs).1 hz).2
  · rw [if_neg h0]
    exact h
theorem Szs.mark {L : Vl} (h : Szs L) (hs : Sorted (ks L)) {x : ByteArray} {a b : Bool} (hx : x.size ≤ 140737488355328) : Szs (markR L x a b) := by
  unfold markR
  by_cases h0 : isName x = false
  · rw [if_pos h0]
    exact h
  · rw [if_neg h0]
    by_cases h1 : a = false ∧ b = false
    · rw [if_pos h1]
      exact h
    · rw [if_neg h1]
      by_cases h2 : has (ks L) x = false ∧ 64 ≤ L.length
      · rw [if_pos h2]
        exact h
      · rw [if_neg h2]
        exact h.setl hs hx (h.gotl hs x)
end

section
open Go.RowKit Go.PlainAid

/-- All blocks of a pair lie below. -/
structure OldAt (n₀ n₁ : Nat) (w : World) (p q : Nat) (L : Vl) (A : List ByteArray) (kv vv av lv aw : Value) : Prop where
  v : VarsAt n₀ w p L A kv vv av
  r : RefAt n₀ w q L A lv aw
  szs : Szs L
  alt : ∀ g, aw.ownBlock = some g → ∃ cs, Blk w g 9 cs
  lt : ∀ g, g = p ∨ kv.ownBlock = some g ∨ vv.ownBlock = some g ∨ av.ownBlock = some g ∨ g = q ∨ lv.ownBlock = some g ∨ aw.ownBlock = some g → g < n₁
def OldL (n₀ n₁ : Nat) (w : World) (p q : Nat) (L : Vl) (A : List ByteArray) : Prop := ∃ kv vv av lv aw, OldAt n₀ n₁ w p q L A kv vv av lv aw
def Old (n₀ n₁ : Nat) (w : World) (x : Nat × Nat) : Prop := ∃ L A, OldL n₀ n₁ w x.1 x.2 L A

section
variable {n₀ n₁ n₂ p q : Nat} {L : Vl} {A : List ByteArray} {w w' : World}
theorem OldL.keep (h : OldL n₀ n₁ w p q L A) (hf : ∀ (g : Nat) (t : TypeId) (cs : Array Value), g < n₁ → Blk w g t cs → t ≠ 24 → t ≠ 26 → w'.heap[g]? = w.heap[g]?) : OldL n₀ n₁ w' p q L A := by
  obtain ⟨kv, vv, av, lv, aw, h⟩ := h
  have row : ∀ {e : TypeId} {s n : Nat} {v : Value} {xs : List Value}, w.ownsRow n₀ e s v n xs → e ≠ 24 → e ≠ 26 → (∀ g, v.ownBlock = some g → g < n₁) → ∀ g, v.ownBlock = some g → w'.heap[g]? = w.heap[g]? := fun hr a b hl g hg => by
    obtain ⟨cs, hc⟩ := row_blk hr hg
    exact hf g _ cs (hl g hg) hc a b
  have ha : ∀ g, aw.ownBlock = some g → w'.heap[g]? = w.heap[g]? := fun g hg => by
    obtain ⟨cs, hc⟩ := h.alt g hg
    exact hf g _ cs (h.lt g (by simp [hg])) hc (by decide) (by decide)
  exact ⟨kv, vv, av, lv, aw, h.v.keep (hf _ _ _ (h.lt _ (by simp)) h.v.blk (by decide) (by decide)) (row h.v.keys (by decide) (by decide) (fun g hg => h.lt g (by simp [hg]))) (row h.v.vals (by decide) (by decide) (fun g hg => h.lt g (by simp [hg]))) (row h.v.args (by decide) (by decide) (fun g hg => h.lt g (by simp [hg]))),
    h.r.keep (hf _ _ _ (h.lt _ (by simp)) h.r.blk (by decide) (by decide)) (row h.r.list (by decide) (by decide) (fun g hg => h.lt g (by simp [hg]))) ha, h.szs, fun g hg => by obtain ⟨cs, hc⟩ := h.alt g hg; exact ⟨cs, (ha g hg).trans hc⟩, h.lt⟩
theorem OldL.below (h : OldL n₀ n₁ w p q L A) (hb : Below n₁ w w') : OldL n₀ n₁ w' p q L A := h.keep (fun g _ _ hg _ _ _ => hb.block g hg)
theorem OldL.up (h : OldL n₀ n₁ w p q L A) (hn : n₁ ≤ n₂) : OldL n₀ n₂ w p q L A := by
  obtain ⟨kv, vv, av, lv, aw, h⟩ := h
  exact ⟨kv, vv, av, lv, aw, h.v, h.r, h.szs, h.alt, fun g hg => Nat.lt_of_lt_of_le (h.lt g hg) hn⟩
theorem OldL.grown {b e s n : Nat} {v : Value} {xs : List Value} (h : OldL n₀ n₁ w p q L A) (hr : w.ownsRow b e s v n xs) (he : e = 24 ∨ e = 26) (hg : w.grownBy w' v.ownBlock) : OldL n₀ n₁ w' p q L A := h.keep (fun g t cs _ hc h1 h2 => hg.block g hc.lt (row_off hc (by rcases he with rfl | rfl <;> assumption) hr))
theorem Old.below {x : Nat × Nat} (h : Old n₀ n₁ w x) (hb : Below n₁ w w') : Old n₀ n₁ w' x := h.elim fun L h => h.elim fun A h => ⟨L, A, h.below hb⟩
theorem Old.up {x : Nat × Nat} (h : Old n₀ n₁ w x) (hn : n₁ ≤ n₂) : Old n₀ n₂ w x := h.elim fun L h => h.elim fun A h => ⟨L, A, h.up hn⟩
theorem Old.grown {x : Nat × Nat} {b e s n : Nat} {v : Value} {xs : List Value} (h : Old n₀ n₁ w x) (hr : w.ownsRow b e s v n xs) (he : e = 24 ∨ e = 26) (hg : w.grownBy w' v.ownBlock) : Old n₀ n₁ w' x := h.elim fun L h => h.elim fun A h => ⟨L, A, h.grown hr he hg⟩

/-- The current pair is laid aside. -/
theorem old_of {m : Nat} {cs : Array Value} {k : Nat} (h : CurE n₁ w p q L A L A m cs) (hn : n₀ ≤ n₁) (hs : Szs L) (hk : w.heap.size ≤ k) : OldL n₀ k w p q L A := by
  obtain ⟨kv, vv, av, lv, aw, h⟩ := h
  refine ⟨kv, vv, av, lv, aw, h.v.weak hn, ⟨h.r.blk, Nat.le_trans hn h.r.base, row_weak h.r.list hn, h.r.args, fun g hg hA => Nat.le_trans hn (h.r.abase g hg hA), h.r.srt, h.r.len, h.r.alen⟩, hs, h.alt, fun g hg => Nat.lt_of_lt_of_le ?_ hk⟩
  rcases hg with rfl | hg | hg | hg | rfl | hg | hg
  · exact h.v.blk.lt
  · exact row_lt h.v.keys hg
  · exact row_lt h.v.vals hg
  · exact row_lt h.v.args hg
  · exact h.r.blk.lt
  · exact row_lt h.r.list hg
  · exact blk_at (h.alt g hg)
end

/-- The two rows of pointers. -/
def pcs (x : Nat) : List Value := [.pointer (some ⟨x, 0, none⟩)]
theorem pcs_len (x : Nat) : (pcs x).length = 1 := rfl
theorem pcs_one (x : Nat) : ∀ u ∈ pcs x, u.oneCell' = true := by simp [pcs, Value.oneCell']

structure Olds (n₀ n₁ : Nat) (w : World) (ov wv : Value) (X : List (Nat × Nat)) : Prop where
  o : w.ownsRow n₀ 24 1 ov X.length (flat pcs (X.map (·.1)))
  r : w.ownsRow n₀ 26 1 wv X.length (flat pcs (X.map (·.2)))
  olt : ∀ g, ov.ownBlock = some g → g < n₁
  rlt : ∀ g, wv.ownBlock = some g → g < n₁
  all : ∀ x ∈ X, Old n₀ n₁ w x
  len : X.length ≤ 4

theorem Olds.below {n₀ n₁ : Nat} {w w' : World} {ov wv : Value} {X : List (Nat × Nat)} (h : Olds n₀ n₁ w ov wv X) (hb : Below n₁ w w') : Olds n₀ n₁ w' ov wv X :=
  ⟨row_keep h.o (fun g hg => hb.block g (h.olt g hg)), row_keep h.r (fun g hg => hb.block g (h.rlt g hg)), h.olt, h.rlt, fun x hx => (h.all x hx).below hb, h.len⟩
theorem Olds.up {n₀ n₁ n₂ : Nat} {w : World} {ov wv : Value} {X : List (Nat × Nat)} (h : Olds n₀ n₁ w ov wv X) (hn : n₁ ≤ n₂) : Olds n₀ n₂ w ov wv X :=
  ⟨h.o, h.r, fun g hg => Nat.lt_of_lt_of_le (h.olt g hg) hn, fun g hg => Nat.lt_of_lt_of_le (h.rlt g hg) hn, fun x hx => (h.all x hx).up hn, h.len⟩
theorem Olds.nil (n₀ n₁ : Nat) (w : World) : Olds n₀ n₁ w (.slice none 0 0) (.slice none 0 0) [] :=
  ⟨World.ownsRow_nil _ _ _ _, World.ownsRow_nil _ _ _ _, fun g hg => (by cases hg), fun g hg => (by cases hg), fun x hx => (by cases hx), Nat.zero_le _⟩
end

end Go.Proofs.Ytklepnldoajghaa
