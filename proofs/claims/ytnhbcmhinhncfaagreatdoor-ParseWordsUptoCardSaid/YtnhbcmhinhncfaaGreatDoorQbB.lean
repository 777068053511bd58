/- A tree that is being built in a block of one's own. No condition. -/
import Derived.Test.YtnhbcmhinhncfaaGreatDoorQbA
namespace Go.Proofs.YtnhbcmhinhncfaaGreatDoor
open Go.RowKit Go.Shelf Go.PlainAid
set_option linter.unusedVariables false
set_option linter.unusedSimpArgs false
attribute [local go_sem] Oper.semAt_some
theorem flat_app {K L : Nat → List Value} {n : Nat} : ∀ m, flat (fun i => if i < n then K i else L (i - n)) (n + m) = flat K n ++ flat L m
  | 0 => by
    show flat _ n = flat K n ++ []
    rw [List.append_nil]
    exact flat_congr n (fun i hi => if_pos hi)
  | m + 1 => by
    show flat _ (n + m) ++ (if n + m < n then K (n + m) else L (n + m - n)) = flat K n ++ (flat L m ++ L m)
    rw [flat_app m, if_neg (by omega), List.append_assoc, Nat.add_sub_cancel_left]
/-- Elements more. -/
theorem RowOf.apps {X : Type} {k : Nat} {E : Elm X k} {ty : TypeId} {n₀ : Nat} {w w' : World} {T Tx : Nat → Prop} {v : Value} {xs ys : List X} {L : Nat → List Value} {a' : Option Addr} {c' m : Nat} (h : RowOf E ty n₀ w T v xs)
    (hK : ∃ K : Nat → List Value, w'.ownsRow n₀ ty k (.slice a' m c') m (flat K xs.length ++ flat L ys.length) ∧ ∀ i x, xs[i]? = some x → E.at_ w T (K i) x) (hm : m = xs.length + ys.length) (hx : ∀ i x, ys[i]? = some x → E.at_ w Tx (L i) x) (hxo : ∀ g, v.ownBlock = some g → ¬ Tx g) (hxg : ∀ g, Tx g → n₀ ≤ g ∧ g < w.heap.size)
    (hg : w.grownBy w' v.ownBlock) (ho : (Value.slice a' m c').ownBlock = v.ownBlock ∨ (Value.slice a' m c').ownBlock = some w.heap.size) : RowOf E ty n₀ w' (fun g => T g ∨ Tx g) (.slice a' m c') (xs ++ ys) := by
  obtain ⟨K, h1, h2⟩ := hK
  subst hm
  refine ⟨⟨fun i => if i < xs.length then K i else L (i - xs.length), ?_, fun i y hi => ?_⟩, fun g hgo hT => ?_, fun g hT => ?_⟩
  · rw [List.length_append, flat_app]
    exact h1
  · rcases Nat.lt_or_ge i xs.length with hlt | hge
    · rw [List.getElem?_append_left hlt] at hi
      show E.at_ w' _ (if i < xs.length then K i else L (i - xs.length)) y
      rw [if_pos hlt]
      exact E.keep (h2 i y hi) (fun g hT => hg.block g (h.ge g hT).2 (fun e => h.off g e.symm hT)) (fun g hT => .inl hT)
    · rw [List.getElem?_append_right hge] at hi
      show E.at_ w' _ (if i < xs.length then K i else L (i - xs.length)) y
      rw [if_neg (by omega)]
      exact E.keep (hx _ y hi) (fun g hT => hg.block g (hxg g hT).2 (fun e => hxo g e.symm hT)) (fun g hT => .inr hT)
  · rcases ho with e | e
    · rw [e] at hgo
      rcases hT with hT | hT
      · exact h.off g hgo hT
      · exact hxo g hgo hT
    · rw [e] at hgo
      obtain rfl : w.heap.size = g := by simpa using hgo
      rcases hT with hT | hT
      · have := (h.ge _ hT).2; omega
      · have := (hxg _ hT).2; omega
  · rcases hT with hT | hT
    · exact ⟨(h.ge g hT).1, Nat.lt_of_lt_of_le (h.ge g hT).2 hg.size⟩
    · exact ⟨(hxg g hT).1, Nat.lt_of_lt_of_le (hxg g hT).2 hg.size⟩
/-- A row's blocks counted among more. -/
theorem RowOf.more {X : Type} {k : Nat} {E : Elm X k} {ty : TypeId} {n₀ : Nat} {w : World} {T T' : Nat → Prop} {v : Value} {xs : List X} (h : RowOf E ty n₀ w T v xs) (hT : ∀ g, T g → T' g) (ho : ∀ g, v.ownBlock = some g → ¬ T' g) (hge : ∀ g, T' g → n₀ ≤ g ∧ g < w.heap.size) : RowOf E ty n₀ w T' v xs := by
  obtain ⟨K, h1, h2⟩ := h.row
  exact ⟨⟨K, h1, fun i x hi => E.keep (h2 i x hi) (fun _ _ => rfl) hT⟩, ho, hge⟩
theorem RowOf.slice_ {X : Type} {k : Nat} {E : Elm X k} {ty : TypeId} {n₀ : Nat} {w : World} {T : Nat → Prop} {v : Value} {xs : List X} (h : RowOf E ty n₀ w T v xs) : ∃ a c, v = .slice a xs.length c := by
  obtain ⟨K, h1, _⟩ := h.row
  obtain ⟨a, c, e⟩ := ownsRow_slice h1
  exact ⟨a, c, e⟩
theorem RowOf.own_lt {X : Type} {k : Nat} {E : Elm X k} {ty : TypeId} {n₀ : Nat} {w : World} {T : Nat → Prop} {v : Value} {xs : List X} (h : RowOf E ty n₀ w T v xs) {g : Nat} (hg : v.ownBlock = some g) : n₀ ≤ g ∧ g < w.heap.size := by
  obtain ⟨K, h1, _⟩ := h.row
  exact h1.lt g hg
/-- A tree in a block: its rows are one's own and may grow. -/
structure NdB (q n₀ : Nat) (k : Int) (x y : Bool) (nm : ByteArray) (ws : List ByteArray) (rs : List Rd) (ks : List Nd) (vw vr vk : Value) (T : Nat → Prop) (W : World) : Prop where
  blk : Blk W q 30 #[.int .i64 k, .bool x, .bool y, .string nm, vw, vr, vk]
  rw_ : RowOf ElS 9 n₀ W T vw ws
  rr : RowOf ElR 50 n₀ W T vr rs
  rk : RowOf ElN 30 n₀ W T vk ks
  nq : ¬ T q
  qw : vw.ownBlock ≠ some q
  qr : vr.ownBlock ≠ some q
  qk : vk.ownBlock ≠ some q
  wr : ∀ g, vw.ownBlock = some g → vr.ownBlock ≠ some g
  wk : ∀ g, vw.ownBlock = some g → vk.ownBlock ≠ some g
  rk_ : ∀ g, vr.ownBlock = some g → vk.ownBlock ≠ some g
section
variable {b q n₀ : Nat} {k : Int} {x y : Bool} {nm : ByteArray} {ws : List ByteArray} {rs : List Rd} {ks : List Nd} {vw vr vk : Value} {T : Nat → Prop} {w W W' : World}
theorem NdB.new_ (n₀ : Nat) (hB : Blk W q 30 #[.int .i64 k, .bool x, .bool y, .string nm, .slice none 0 0, .slice none 0 0, .slice none 0 0]) : NdB q n₀ k x y nm [] [] [] (.slice none 0 0) (.slice none 0 0) (.slice none 0 0) (fun _ => False) W :=
  ⟨hB, RowOf.nil _ _ _ _, RowOf.nil _ _ _ _, RowOf.nil _ _ _ _, id, by simp [Value.ownBlock], by simp [Value.ownBlock], by simp [Value.ownBlock], by simp [Value.ownBlock], by simp [Value.ownBlock], by simp [Value.ownBlock]⟩
theorem NdB.keep (h : NdB q n₀ k x y nm ws rs ks vw vr vk T W) (hf : Fb b W W') (hb : b < n₀) (hq : q ≠ b) : NdB q n₀ k x y nm ws rs ks vw vr vk T W' :=
  ⟨hf.blk h.blk hq, h.rw_.keep hf hb, h.rr.keep hf hb, h.rk.keep hf hb, h.nq, h.qw, h.qr, h.qk, h.wr, h.wk, h.rk_⟩
/-- One of its cells before the rows. -/
theorem NdB.far (h : NdB q n₀ k x y nm ws rs ks vw vr vk T W) (hs : W.heap.size ≤ W'.heap.size) (hk : ∀ g, g ≠ q → g < W.heap.size → W'.heap[g]? = W.heap[g]?) {k2 : Int} {x2 y2 : Bool} {nm2 : ByteArray} (hB : Blk W' q 30 #[.int .i64 k2, .bool x2, .bool y2, .string nm2, vw, vr, vk]) : NdB q n₀ k2 x2 y2 nm2 ws rs ks vw vr vk T W' :=
  ⟨hB, h.rw_.same hs (fun g hl hg => hk g (fun e => by subst e; exact hg.elim h.nq h.qw) hl), h.rr.same hs (fun g hl hg => hk g (fun e => by subst e; exact hg.elim h.nq h.qr) hl), h.rk.same hs (fun g hl hg => hk g (fun e => by subst e; exact hg.elim h.nq h.qk) hl), h.nq, h.qw, h.qr, h.qk, h.wr, h.wk, h.rk_⟩
theorem NdB.inn (h : NdB q n₀ k x y nm ws rs ks vw vr vk T W) (u : Bool) : NdB q n₀ k x u nm ws rs ks vw vr vk T (W.setCell ⟨q, 2, none⟩ (.bool u)) :=
  h.far (Nat.le_of_eq (World.size_setCell _ _ _).symm) (fun g hg _ => Below.heap_setCell _ _ _ _ hg) (h.blk.set_ 2 _)
/-- Its blocks, all of them. -/
def ndT (T : Nat → Prop) (vw vr vk : Value) (g : Nat) : Prop := T g ∨ vw.ownBlock = some g ∨ vr.ownBlock = some g ∨ vk.ownBlock = some g
theorem NdB.hd {n1 n2 n3 c1 c2 c3 : Nat} {aw ar ak : Option Addr} (h : NdB q w.heap.size k x y nm ws rs ks (.slice aw n1 c1) (.slice ar n2 c2) (.slice ak n3 c3) T W) :
    Hd b w (.mk k x y nm ws rs ks) k x y nm aw n1 c1 ar n2 c2 ak n3 c3 (ndT T (.slice aw n1 c1) (.slice ar n2 c2) (.slice ak n3 c3)) W ∧ ¬ ndT T (.slice aw n1 c1) (.slice ar n2 c2) (.slice ak n3 c3) q ∧
    (∀ p, (¬ T p) → Value.ownBlock (.slice aw n1 c1) ≠ some p → Value.ownBlock (.slice ar n2 c2) ≠ some p → Value.ownBlock (.slice ak n3 c3) ≠ some p → ¬ ndT T (.slice aw n1 c1) (.slice ar n2 c2) (.slice ak n3 c3) p) := by
  obtain ⟨d1, g1⟩ := h.rw_.done
  obtain ⟨d2, g2⟩ := h.rr.done
  obtain ⟨d3, g3⟩ := h.rk.done
  obtain ⟨a1, e1, E1⟩ := h.rw_.slice_
  obtain ⟨a2, e2, E2⟩ := h.rr.slice_
  obtain ⟨a3, e3, E3⟩ := h.rk.slice_
  obtain ⟨rfl, rfl, rfl⟩ : aw = a1 ∧ n1 = ws.length ∧ c1 = e1 := by simpa using E1
  obtain ⟨rfl, rfl, rfl⟩ : ar = a2 ∧ n2 = rs.length ∧ c2 = e2 := by simpa using E2
  obtain ⟨rfl, rfl, rfl⟩ : ak = a3 ∧ n3 = ks.length ∧ c3 = e3 := by simpa using E3
  refine ⟨⟨NdAt.of (d1.keep (fun _ _ => rfl) (fun g hg => hg.elim .inl (fun e => .inr (.inl e)))) (d2.keep (fun _ _ => rfl) (fun g hg => hg.elim .inl (fun e => .inr (.inr (.inl e))))) (d3.keep (fun _ _ => rfl) (fun g hg => hg.elim .inl (fun e => .inr (.inr (.inr e))))), fun g hg => ?_⟩, fun hg => ?_, fun p h0 h1 h2 h3 hg => ?_⟩
  · rcases hg with hg | hg | hg | hg
    · exact g1 g (.inl hg)
    · exact g1 g (.inr hg)
    · exact g2 g (.inr hg)
    · exact g3 g (.inr hg)
  · rcases hg with hg | hg | hg | hg
    · exact h.nq hg
    · exact h.qw hg
    · exact h.qr hg
    · exact h.qk hg
  · rcases hg with hg | hg | hg | hg
    · exact h0 hg
    · exact h1 hg
    · exact h2 hg
    · exact h3 hg
variable {a' : Option Addr} {c' m : Nat} {L : Nat → List Value} {Tx : Nat → Prop}
/-- Kids more. -/
theorem NdB.kids {ys : List Nd} (h : NdB q n₀ k x y nm ws rs ks vw vr vk T W)
    (hK : ∃ K : Nat → List Value, W'.ownsRow n₀ 30 7 (.slice a' m c') m (flat K ks.length ++ flat L ys.length) ∧ ∀ i x, ks[i]? = some x → ElN.at_ W T (K i) x) (hm : m = ks.length + ys.length) (hx : ∀ i x, ys[i]? = some x → NdAt W Tx (L i) x)
    (hT : ∀ g, Tx g → n₀ ≤ g ∧ g < W.heap.size ∧ g ≠ q ∧ vw.ownBlock ≠ some g ∧ vr.ownBlock ≠ some g ∧ vk.ownBlock ≠ some g)
    (hg : W.grownBy W' vk.ownBlock) (ho : (Value.slice a' m c').ownBlock = vk.ownBlock ∨ (Value.slice a' m c').ownBlock = some W.heap.size) :
    NdB q n₀ k x y nm ws rs (ks ++ ys) vw vr (.slice a' m c') (fun g => T g ∨ Tx g) (W'.setCell ⟨q, 6, none⟩ (.slice a' m c')) := by
  have hql := h.blk.lt
  have hB1 : Blk W' q 30 #[.int .i64 k, .bool x, .bool y, .string nm, vw, vr, vk] := (hg.block q hql (fun e => h.qk e.symm)).trans h.blk
  have hrk := h.rk.apps (ys := ys) hK hm hx (fun g e ht => (hT g ht).2.2.2.2.2 e) (fun g ht => ⟨(hT g ht).1, (hT g ht).2.1⟩) hg ho
  have hrw := (h.rw_.same hg.size (fun g hl hc => hg.block g hl (fun e => hc.elim (h.rk.off g e.symm) (fun e2 => h.wk g e2 e.symm)))).more (T' := fun g => T g ∨ Tx g) (fun _ => .inl) (fun g e ht => ht.elim (h.rw_.off g e) (fun ht => (hT g ht).2.2.2.1 e)) (fun g ht => hrk.ge g ht)
  have hrr := (h.rr.same hg.size (fun g hl hc => hg.block g hl (fun e => hc.elim (h.rk.off g e.symm) (fun e2 => h.rk_ g e2 e.symm)))).more (T' := fun g => T g ∨ Tx g) (fun _ => .inl) (fun g e ht => ht.elim (h.rr.off g e) (fun ht => (hT g ht).2.2.2.2.1 e)) (fun g ht => hrk.ge g ht)
  have hnq : ¬ (T q ∨ Tx q) := fun e => e.elim h.nq (fun e => (hT q e).2.2.1 rfl)
  have hqk : (Value.slice a' m c').ownBlock ≠ some q := fun e => by
    rcases ho with h2 | h2
    · exact h.qk (h2.symm.trans e)
    · have := Option.some.inj (h2.symm.trans e); omega
  have hs : W'.heap.size ≤ (W'.setCell ⟨q, 6, none⟩ (.slice a' m c')).heap.size := Nat.le_of_eq (World.size_setCell _ _ _).symm
  have hk : ∀ g, g ≠ q → (W'.setCell ⟨q, 6, none⟩ (.slice a' m c')).heap[g]? = W'.heap[g]? := fun g hg => Below.heap_setCell _ _ _ _ hg
  refine ⟨hB1.set_ 6 _, hrw.same hs (fun g _ hc => hk g (fun e => by subst e; exact hc.elim hnq h.qw)), hrr.same hs (fun g _ hc => hk g (fun e => by subst e; exact hc.elim hnq h.qr)), hrk.same hs (fun g _ hc => hk g (fun e => by subst e; exact hc.elim hnq hqk)), hnq, h.qw, h.qr, hqk, h.wr, fun g e e2 => ?_, fun g e e2 => ?_⟩
  · rcases ho with h2 | h2
    · exact h.wk g e (h2.symm.trans e2)
    · have := Option.some.inj (h2.symm.trans e2); have := (h.rw_.own_lt e).2; omega
  · rcases ho with h2 | h2
    · exact h.rk_ g e (h2.symm.trans e2)
    · have := Option.some.inj (h2.symm.trans e2); have := (h.rr.own_lt e).2; omega
/-- Words more. -/
theorem NdB.words {ys : List ByteArray} (h : NdB q n₀ k x y nm ws rs ks vw vr vk T W)
    (hK : ∃ K : Nat → List Value, W'.ownsRow n₀ 9 1 (.slice a' m c') m (flat K ws.length ++ flat L ys.length) ∧ ∀ i x, ws[i]? = some x → ElS.at_ W T (K i) x) (hm : m = ws.length + ys.length) (hx : ∀ i x, ys[i]? = some x → L i = [.string x])
    (hg : W.grownBy W' vw.ownBlock) (ho : (Value.slice a' m c').ownBlock = vw.ownBlock ∨ (Value.slice a' m c').ownBlock = some W.heap.size) :
    NdB q n₀ k x y nm (ws ++ ys) rs ks (.slice a' m c') vr vk T (W'.setCell ⟨q, 4, none⟩ (.slice a' m c')) := by
  have hql := h.blk.lt
  have hB1 : Blk W' q 30 #[.int .i64 k, .bool x, .bool y, .string nm, vw, vr, vk] := (hg.block q hql (fun e => h.qw e.symm)).trans h.blk
  have hrw := (h.rw_.apps (ys := ys) (Tx := fun _ => False) hK hm hx (fun g e ht => ht) (fun g ht => ht.elim) hg ho).more (T' := T) (fun _ h => h.elim id False.elim) (fun g e ht => by
    rcases ho with h2 | h2
    · exact h.rw_.off g (h2.symm.trans e) ht
    · have := Option.some.inj (h2.symm.trans e); have := (h.rw_.ge g ht).2; omega) (fun g ht => ⟨(h.rw_.ge g ht).1, Nat.lt_of_lt_of_le (h.rw_.ge g ht).2 hg.size⟩)
  have hrk := h.rk.same hg.size (fun g hl hc => hg.block g hl (fun e => hc.elim (h.rw_.off g e.symm) (fun e2 => h.wk g e.symm e2)))
  have hrr := h.rr.same hg.size (fun g hl hc => hg.block g hl (fun e => hc.elim (h.rw_.off g e.symm) (fun e2 => h.wr g e.symm e2)))
  have hqk : (Value.slice a' m c').ownBlock ≠ some q := fun e => by
    rcases ho with h2 | h2
    · exact h.qw (h2.symm.trans e)
    · have := Option.some.inj (h2.symm.trans e); omega
  have hs : W'.heap.size ≤ (W'.setCell ⟨q, 4, none⟩ (.slice a' m c')).heap.size := Nat.le_of_eq (World.size_setCell _ _ _).symm
  have hk : ∀ g, g ≠ q → (W'.setCell ⟨q, 4, none⟩ (.slice a' m c')).heap[g]? = W'.heap[g]? := fun g hg => Below.heap_setCell _ _ _ _ hg
  refine ⟨hB1.set_ 4 _, hrw.same hs (fun g _ hc => hk g (fun e => by subst e; exact hc.elim h.nq hqk)), hrr.same hs (fun g _ hc => hk g (fun e => by subst e; exact hc.elim h.nq h.qr)), hrk.same hs (fun g _ hc => hk g (fun e => by subst e; exact hc.elim h.nq h.qk)), h.nq, hqk, h.qr, h.qk, fun g e e2 => ?_, fun g e e2 => ?_, h.rk_⟩
  · rcases ho with h2 | h2
    · exact h.wr g (h2.symm.trans e) e2
    · have := Option.some.inj (h2.symm.trans e); have := (h.rr.own_lt e2).2; omega
  · rcases ho with h2 | h2
    · exact h.wk g (h2.symm.trans e) e2
    · have := Option.some.inj (h2.symm.trans e); have := (h.rk.own_lt e2).2; omega
/-- Redirections more. -/
theorem NdB.reds {ys : List Rd} (h : NdB q n₀ k x y nm ws rs ks vw vr vk T W)
    (hK : ∃ K : Nat → List Value, W'.ownsRow n₀ 50 5 (.slice a' m c') m (flat K rs.length ++ flat L ys.length) ∧ ∀ i x, rs[i]? = some x → ElR.at_ W T (K i) x) (hm : m = rs.length + ys.length) (hx : ∀ i x, ys[i]? = some x → L i = [.int .i64 x.fd, .string x.op, .string x.word, .string x.doc, .bool x.raw])
    (hg : W.grownBy W' vr.ownBlock) (ho : (Value.slice a' m c').ownBlock = vr.ownBlock ∨ (Value.slice a' m c').ownBlock = some W.heap.size) :
    NdB q n₀ k x y nm ws (rs ++ ys) ks vw (.slice a' m c') vk T (W'.setCell ⟨q, 5, none⟩ (.slice a' m c')) := by
  have hql := h.blk.lt
  have hB1 : Blk W' q 30 #[.int .i64 k, .bool x, .bool y, .string nm, vw, vr, vk] := (hg.block q hql (fun e => h.qr e.symm)).trans h.blk
  have hrr := (h.rr.apps (ys := ys) (Tx := fun _ => False) hK hm hx (fun g e ht => ht) (fun g ht => ht.elim) hg ho).more (T' := T) (fun _ h => h.elim id False.elim) (fun g e ht => by
    rcases ho with h2 | h2
    · exact h.rr.off g (h2.symm.trans e) ht
    · have := Option.some.inj (h2.symm.trans e); have := (h.rr.ge g ht).2; omega) (fun g ht => ⟨(h.rr.ge g ht).1, Nat.lt_of_lt_of_le (h.rr.ge g ht).2 hg.size⟩)
  have hrk := h.rk.same hg.size (fun g hl hc => hg.block g hl (fun e => hc.elim (h.rr.off g e.symm) (fun e2 => h.rk_ g e.symm e2)))
  have hrw := h.rw_.same hg.size (fun g hl hc => hg.block g hl (fun e => hc.elim (h.rr.off g e.symm) (fun e2 => h.wr g e2 e.symm)))
  have hqk : (Value.slice a' m c').ownBlock ≠ some q := fun e => by
    rcases ho with h2 | h2
    · exact h.qr (h2.symm.trans e)
    · have := Option.some.inj (h2.symm.trans e); omega
  have hs : W'.heap.size ≤ (W'.setCell ⟨q, 5, none⟩ (.slice a' m c')).heap.size := Nat.le_of_eq (World.size_setCell _ _ _).symm
  have hk : ∀ g, g ≠ q → (W'.setCell ⟨q, 5, none⟩ (.slice a' m c')).heap[g]? = W'.heap[g]? := fun g hg => Below.heap_setCell _ _ _ _ hg
  refine ⟨hB1.set_ 5 _, hrw.same hs (fun g _ hc => hk g (fun e => by subst e; exact hc.elim h.nq h.qw)), hrr.same hs (fun g _ hc => hk g (fun e => by subst e; exact hc.elim h.nq hqk)), hrk.same hs (fun g _ hc => hk g (fun e => by subst e; exact hc.elim h.nq h.qk)), h.nq, h.qw, hqk, h.qk, fun g e e2 => ?_, h.wk, fun g e e2 => ?_⟩
  · rcases ho with h2 | h2
    · exact h.wr g e (h2.symm.trans e2)
    · have := Option.some.inj (h2.symm.trans e2); have := (h.rw_.own_lt e).2; omega
  · rcases ho with h2 | h2
    · exact h.rk_ g (h2.symm.trans e) e2
    · have := Option.some.inj (h2.symm.trans e); have := (h.rk.own_lt e2).2; omega
end
end Go.Proofs.YtnhbcmhinhncfaaGreatDoor
/- A list's tree out of its entries. Conditions: the entries' row and the parser lie as stated. -/
namespace Go.Proofs.YtnhbcmhinhncfaaGreatDoor
open Go.RowKit Go.Shelf Go.PlainAid
set_option linter.unusedVariables false
set_option linter.unusedSimpArgs false
attribute [local go_sem] Oper.semAt_some
theorem NdAt.kind_ {w : World} {T : Nat → Prop} {k : Int} {l : List Value} {n : Nd} (h : NdAt w T (.int .i64 k :: l) n) : n.kind = k := by
  cases h
  rfl
/-- An entry of a row, cell by cell. -/
theorem Done.en_at {w : World} {T : Nat → Prop} {a : Option Addr} {n c i : Nat} {xs : List (Nd × Bool)} {t : Nd × Bool} (h : Done ElE 73 w T (.slice a n c) xs) (hn : n = xs.length) (hi : xs[i]? = some t) :
    ∃ (g : Nat) (k : Int) (x y : Bool) (nm : ByteArray) (aw : Option Addr) (nw cw : Nat) (ar : Option Addr) (nr cr : Nat) (ak : Option Addr) (nk ck : Nat), a = some ⟨g, 0, none⟩ ∧ T g ∧ NdAt w T [.int .i64 k, .bool x, .bool y, .string nm, .slice aw nw cw, .slice ar nr cr, .slice ak nk ck] t.1 ∧
      w.cell? ⟨g, i * 8, none⟩ = some (.int .i64 k) ∧ w.cell? ⟨g, i * 8 + 1, none⟩ = some (.bool x) ∧ w.cell? ⟨g, i * 8 + 2, none⟩ = some (.bool y) ∧ w.cell? ⟨g, i * 8 + 3, none⟩ = some (.string nm) ∧ w.cell? ⟨g, i * 8 + 4, none⟩ = some (.slice aw nw cw) ∧ w.cell? ⟨g, i * 8 + 5, none⟩ = some (.slice ar nr cr) ∧ w.cell? ⟨g, i * 8 + 6, none⟩ = some (.slice ak nk ck) ∧ w.cell? ⟨g, i * 8 + 7, none⟩ = some (.bool t.2) := by
  subst hn
  obtain ⟨n₀, K, h1, h2⟩ := h.row
  have hlt := (List.getElem?_eq_some_iff.1 hi).1
  obtain ⟨g, cap, hv, _, _⟩ := h1.form (by omega)
  obtain ⟨rfl, rfl⟩ : a = some ⟨g, 0, none⟩ ∧ c = cap := by simpa using hv
  have hg := h.own g rfl
  have hN := h2 i t hi
  have hfl := (flat_get (K := K) (k := 8) xs.length (fun j hj => ElE.len (h2 j _ (List.getElem?_eq_getElem hj)))).2 i hlt
  have hc : ∀ j, j < 8 → w.cell? ⟨g, i * 8 + j, none⟩ = (K i)[j]? := fun j hj => by
    have h9 : i * 8 + j < xs.length * 8 := by omega
    have h8 := h1.cellAt (i * 8 + j) h9
    rw [h8, hfl j hj]
  obtain ⟨cs, hN', hK⟩ : ∃ c, NdAt w T c t.1 ∧ K i = c ++ [Value.bool t.2] := hN
  rw [hK] at hc
  obtain ⟨t1, t2⟩ := t
  dsimp only at hN' hc ⊢
  cases hN' with
  | mk K2 hw hr hrow hown hk =>
    exact ⟨g, _, _, _, _, _, _, _, _, _, _, _, _, _, rfl, hg, .mk K2 hw hr hrow hown hk, hc 0 (by decide), hc 1 (by decide), hc 2 (by decide), hc 3 (by decide), hc 4 (by decide), hc 5 (by decide), hc 6 (by decide), hc 7 (by decide)⟩
theorem gather_many {l : List (Nd × Bool)} (h : ¬ ∃ x, l = [x] ∧ x.1.kind ≠ 6) : gather l = ndK 5 (l.map (·.1)) := by
  unfold gather
  split
  · rename_i x
    rw [if_neg (fun hk => h ⟨x, rfl, hk⟩)]
    rfl
  · rfl
theorem Fb.grown' {b : Nat} {w W W' : World} {o : Option Nat} (h : Fb b w W) (hg : W.grownBy W' o) (ho : ∀ g, o = some g → w.heap.size ≤ g) : Fb b w W' :=
  ⟨hg.os.trans h.os, hg.tape.trans h.tape, hg.output.trans h.output, Nat.le_trans h.size hg.size, fun g h1 h2 => (hg.block g (Nat.lt_of_lt_of_le h1 h.size) (fun e => by have := ho g e.symm; omega)).trans (h.block g h1 h2)⟩
section
variable {b : Nat} {s : ByteArray} {w w0 : World} {st : PS}
/-- What holds at the head of the loop. -/
structure GaI (b q2 q5 : Nat) (s : ByteArray) (w w0 : World) (st : PS) (T : Nat → Prop) (l : List (Nd × Bool)) (i : Nat) (W : World) : Prop where
  pf : PF b s W st
  fb : Fb b w W
  z : Blk W q2 30 N7
  nd : ∃ (a : Option Addr) (c : Nat) (T' : Nat → Prop), NdB q5 w0.heap.size 5 false false ⟨#[]⟩ [] [] ((l.take i).map (·.1)) (.slice none 0 0) (.slice none 0 0) (.slice a i c) T' W ∧ (∀ g, T' g → T g) ∧ (∀ g, (Value.slice a i c).ownBlock = some g → ¬ T g ∧ g ≠ q2 ∧ w.heap.size ≤ g)
set_option maxRecDepth 100000 in
set_option maxHeartbeats 8000000 in
theorem gather_f {l : List (Nd × Bool)} {T : Nat → Prop} {a : Option Addr} {c : Nat} (hD : Done ElE 73 w T (.slice a l.length c) l) (hT : ∀ g, T g → w0.heap.size ≤ g ∧ g < w.heap.size) (hln : l.length ≤ 140001) (hlt : b < w0.heap.size) (hF0 : Fb b w0 w) (h : PF b s w st) :
    Calls Tryz.prog 30 #[.slice a l.length c] w (NdAn b s w0 (gather l) st) := by
  obtain ⟨q2, hq2⟩ : ∃ q, w.heap.size = q := ⟨_, rfl⟩
  have hlt2 := h.lt
  have h16 := h.b16
  have hqb : q2 ≠ b := by omega
  have hq16 : 8 ≤ q2 := by omega
  obtain ⟨W, hW⟩ : ∃ W, w.alloc (.cells N7 30) = W := ⟨_, rfl⟩
  have hb1 : Below w.heap.size w W := by rw [← hW]; exact (Below.refl _ _).alloc (Nat.le_refl _) _
  have hZ := Lib.hid (show Blk W q2 30 N7 by rw [← hW, ← hq2]; exact Blk.new _ _ _)
  have hF1 := Lib.hid (Fb.of_below (b := b) hb1)
  have hA1 := Lib.hid (h.below hb1)
  have hD1 := Lib.hid (hD.keep (fun g hg => hb1.block g (hT g hg).2) (fun _ h => h))
  have hnT := Lib.hid (show ¬ T q2 from fun e => by have := (hT q2 e).2; omega)
  have hqw : w0.heap.size ≤ q2 := by rw [← hq2]; exact hF0.size
  have hTH := Lib.hid hT
  have hWH := Lib.hid hW
  have hqH := Lib.hid hq2
  have hF0H := Lib.hid hF0
  clear hW hb1 h hD hT hq2 hF0
  by_cases hone : ∃ x, l = [x] ∧ x.1.kind ≠ 6
  · obtain ⟨x0, rfl, hk⟩ := hone
    obtain ⟨g, k, x, y, nm, aw, nw, cw, ar, nr, cr, ak, nk, ck, rfl, hTg, hN, n0, n1, n2, n3, n4, n5, n6, n7⟩ := hD1.out.en_at (i := 0) rfl rfl
    have hk6 : ¬ k = 6 := by rw [← hN.kind_]; exact hk
    have hHd : Hd b w0 x0.1 k x y nm aw nw cw ar nr cr ak nk ck T W := ⟨hN, fun g hg => ⟨(hTH.out g hg).1, Nat.lt_of_lt_of_le (hTH.out g hg).2 hF1.out.size⟩⟩
    have hHdH := Lib.hid hHd
    have hres := Lib.hid (show gather [x0] = x0.1 by unfold gather; exact if_pos hk)
    have n0 : W.cell? ⟨g, 0, none⟩ = some (.int .i64 k) := n0
    have n1 : W.cell? ⟨g, 1, none⟩ = some (.bool x) := n1
    have n2 : W.cell? ⟨g, 2, none⟩ = some (.bool y) := n2
    have n3 : W.cell? ⟨g, 3, none⟩ = some (.string nm) := n3
    have n4 : W.cell? ⟨g, 4, none⟩ = some (.slice aw nw cw) := n4
    have n5 : W.cell? ⟨g, 5, none⟩ = some (.slice ar nr cr) := n5
    have n6 : W.cell? ⟨g, 6, none⟩ = some (.slice ak nk ck) := n6
    clear hN hHd hTg n7 hk
    rw [hres.out]
    have z0 : W.cell? ⟨q2, 0, none⟩ = some (.int .i64 0) := hZ.out.cell 0
    have z1 : W.cell? ⟨q2, 1, none⟩ = some (.bool false) := hZ.out.cell 1
    have z2 : W.cell? ⟨q2, 2, none⟩ = some (.bool false) := hZ.out.cell 2
    have z3 : W.cell? ⟨q2, 3, none⟩ = some (.string ⟨#[]⟩) := hZ.out.cell 3
    have z4 : W.cell? ⟨q2, 4, none⟩ = some (.slice none 0 0) := hZ.out.cell 4
    have z5 : W.cell? ⟨q2, 5, none⟩ = some (.slice none 0 0) := hZ.out.cell 5
    have z6 : W.cell? ⟨q2, 6, none⟩ = some (.slice none 0 0) := hZ.out.cell 6
    have f0 := hZ.out.frozen 0
    have f1 := hZ.out.frozen 1
    have f2 := hZ.out.frozen 2
    have f3 := hZ.out.frozen 3
    have f4 := hZ.out.frozen 4
    have f5 := hZ.out.frozen 5
    have f6 := hZ.out.frozen 6
    go_enter Tryz.func30, Tryz.ntmps30
    go_upto_region 1 with fail
    rw [hWH.out, hqH.out]
    go_wp2_with fail
    refine bodyPost_ret (results_cell_row rfl _ _ q2 30 #[.int .i64 k, .bool x, .bool y, .string nm, .slice aw nw cw, .slice ar nr cr, .slice ak nk ck] (0, 0) _ rfl (put7_blk hZ.out _ _ _ _ _ _ _) Tryz.underlying30 rfl (by kernel_rfl)) rfl ?_
    exact hHdH.out.an hZ.out hnT.out hqw hqb hq16 hA1.out (hF0H.out.trans hF1.out)
  · have hres := Lib.hid (gather_many hone)
    rw [hres.out]
    obtain ⟨kids, hkids⟩ : ∃ k, l.map (·.1) = k := ⟨_, rfl⟩
    have hpre : l.length = 1 → ∃ (g : Nat) (k : Int), a = some ⟨g, 0, none⟩ ∧ W.cell? ⟨g, 0, none⟩ = some (.int .i64 6) := fun h1 => by
      obtain ⟨x0, rfl⟩ := List.length_eq_one_iff.1 h1
      obtain ⟨g, k, x, y, nm, aw, nw, cw, ar, nr, cr, ak, nk, ck, e, hTg, hN, n0, _⟩ := hD1.out.en_at (i := 0) rfl rfl
      have hk6 : k = 6 := by
        have := hN.kind_
        rcases Int.decEq k 6 with h | h
        · exact absurd ⟨x0, rfl, by rw [this]; exact h⟩ hone
        · exact h
      subst hk6
      exact ⟨g, 6, e, n0⟩
    obtain ⟨n, hn⟩ : ∃ n, l.length = n := ⟨_, rfl⟩
    rw [hn] at hpre hln ⊢
    have hD1 := Lib.hid (show Done ElE 73 W T (.slice a n c) l by have := hD1.out; rwa [hn] at this)
    have hnH := Lib.hid hn
    obtain ⟨i0, hi0, hz0, hz1, hz2⟩ := info_parts infoNd
    have hi0H := Lib.hid hi0
    obtain ⟨q5, hq5⟩ : ∃ q, W.heap.size = q := ⟨_, rfl⟩
    obtain ⟨W1, hW1⟩ : ∃ W1, W.alloc (.cells #[.int .i64 5, .bool false, .bool false, .string ⟨#[]⟩, .slice none 0 0, .slice none 0 0, .slice none 0 0] 30) = W1 := ⟨_, rfl⟩
    have hb2 : Below W.heap.size W W1 := by rw [← hW1]; exact (Below.refl _ _).alloc (Nat.le_refl _) _
    have hB5 : Blk W1 q5 30 #[.int .i64 5, .bool false, .bool false, .string ⟨#[]⟩, .slice none 0 0, .slice none 0 0, .slice none 0 0] := by rw [← hW1, ← hq5]; exact Blk.new _ _ _
    have hq5b : q5 ≠ b := by have := hZ.out.lt; omega
    have hq52 : q2 ≠ q5 := by have := hZ.out.lt; omega
    have hTlt := Lib.hid (fun g (hg : T g) => (show w0.heap.size ≤ g ∧ g < w.heap.size ∧ g ≠ q5 ∧ g ≠ q2 from ⟨(hTH.out g hg).1, (hTH.out g hg).2, fun e => by have := (hTH.out g hg).2; have := hF1.out.size; omega, fun e => hnT.out (e ▸ hg)⟩))
    have hst := Lib.hid (show GaI b q2 q5 s w w0 st T l 0 W1 from ⟨hA1.out.below hb2, hF1.out.trans (Fb.of_below hb2), (Fb.of_below (b := b) hb2).blk hZ.out hqb, none, 0, _, NdB.new_ _ hB5, fun g h => h.elim, fun g h => by simp [Value.ownBlock] at h⟩)
    have hFw := Lib.hid hF1.out
    have hs1 : w.heap.size ≤ W1.heap.size := (hF1.out.trans (Fb.of_below hb2)).size
    have hFq := Lib.hid (hF1.out.trans (Fb.of_below hb2))
    have hw05 : w0.heap.size ≤ q5 := by have := hZ.out.lt; omega
    have hq5w : w.heap.size ≤ q5 := by have := hZ.out.lt; have := hqH.out; omega
    have hq516 : 8 ≤ q5 := by omega
    have hW1H := Lib.hid hW1
    have hq5H := Lib.hid hq5
    clear hn hone hi0 hb2 hB5 hW1 hq5 hTH
    have hgo : n = 1 ∨ ¬ (n : Int) = 1 := by omega
    rcases hgo with h1 | h1
    · subst h1
      obtain ⟨g, k, rfl, n0⟩ := hpre rfl
      clear hpre
      go_enter Tryz.func30, Tryz.ntmps30
      go_upto_region 1 with fail
      rw [hWH.out, hqH.out]
      go_upto_region 5 with fail
      clear n0
      rw [hW1H.out, hq5H.out]
      go_loopg [24] 1 (fun g v wr => ∃ i : Nat, v = .int .i64 (i : Int) ∧ g + i = 1 ∧ Hid (GaI b q2 q5 s w w0 st T l i wr))
      case atStart => exact ⟨0, rfl, rfl, hst⟩
      case round =>
        clear hst
        obtain ⟨i, rfl, hg, hI⟩ := hrel
        by_cases hi : i < 1
        rotate_left
        · have hd : decide ((i : Int) < (1 : Int)) = false := decide_eq_false (by omega)
          obtain rfl : 1 = i := by omega
          obtain ⟨a5, k5, T5, hN, hTT, hown⟩ := hI.out.nd
          have hz5 := Lib.hid hI.out.z
          have htk : (l.take 1).map (·.1) = l.map (·.1) := by rw [List.take_of_length_le (Nat.le_of_eq hnH.out)]
          rw [htk] at hN
          have hNH := Lib.hid hN
          have hq2T := Lib.hid (show ¬ ndT T5 (.slice none 0 0) (.slice none 0 0) (.slice a5 1 k5) q2 from fun e => by
            rcases e with e | e | e | e
            · exact hnT.out (hTT _ e)
            · simp [Value.ownBlock] at e
            · simp [Value.ownBlock] at e
            · exact (hown _ e).2.1 rfl)
          have c0 : wr.cell? ⟨q5, 0, none⟩ = some (.int .i64 5) := hN.blk.cell 0
          have c1 : wr.cell? ⟨q5, 1, none⟩ = some (.bool false) := hN.blk.cell 1
          have c2 : wr.cell? ⟨q5, 2, none⟩ = some (.bool false) := hN.blk.cell 2
          have c3 : wr.cell? ⟨q5, 3, none⟩ = some (.string ⟨#[]⟩) := hN.blk.cell 3
          have c4 : wr.cell? ⟨q5, 4, none⟩ = some (.slice none 0 0) := hN.blk.cell 4
          have c5 : wr.cell? ⟨q5, 5, none⟩ = some (.slice none 0 0) := hN.blk.cell 5
          have c6 : wr.cell? ⟨q5, 6, none⟩ = some (.slice a5 1 k5) := hN.blk.cell 6
          have z0 : wr.cell? ⟨q2, 0, none⟩ = some (.int .i64 0) := hz5.out.cell 0
          have z1 : wr.cell? ⟨q2, 1, none⟩ = some (.bool false) := hz5.out.cell 1
          have z2 : wr.cell? ⟨q2, 2, none⟩ = some (.bool false) := hz5.out.cell 2
          have z3 : wr.cell? ⟨q2, 3, none⟩ = some (.string ⟨#[]⟩) := hz5.out.cell 3
          have z4 : wr.cell? ⟨q2, 4, none⟩ = some (.slice none 0 0) := hz5.out.cell 4
          have z5 : wr.cell? ⟨q2, 5, none⟩ = some (.slice none 0 0) := hz5.out.cell 5
          have z6 : wr.cell? ⟨q2, 6, none⟩ = some (.slice none 0 0) := hz5.out.cell 6
          have f0 := hz5.out.frozen 0
          have f1 := hz5.out.frozen 1
          have f2 := hz5.out.frozen 2
          have f3 := hz5.out.frozen 3
          have f4 := hz5.out.frozen 4
          have f5 := hz5.out.frozen 5
          have f6 := hz5.out.frozen 6
          clear hN htk
          go_wp2_with fail
          refine bodyPost_ret (results_cell_row rfl _ _ q2 30 #[.int .i64 5, .bool false, .bool false, .string ⟨#[]⟩, .slice none 0 0, .slice none 0 0, .slice a5 1 k5] (0, 0) _ rfl (put7_blk hz5.out _ _ _ _ _ _ _) Tryz.underlying30 rfl (by kernel_rfl)) rfl ?_
          exact (NdB.hd (b := b) (w := w0) hNH.out).1.an hz5.out hq2T.out hqw hqb hq16 hI.out.pf (hF0H.out.trans hI.out.fb)
        · have hd : decide ((i : Int) < (1 : Int)) = true := decide_eq_true (by omega)
          obtain ⟨t, ht⟩ : ∃ t, l[i]? = some t := ⟨_, List.getElem?_eq_getElem (by have := hnH.out; omega)⟩
          obtain ⟨a5, k5, T5, hN, hTT, hown⟩ := hI.out.nd
          have hsz := hI.out.fb.size
          have hDr := hD1.out.keep (w' := wr) (fun g hg => by
            have h3 := hTlt.out g hg
            rw [hI.out.fb.block g h3.2.1 (by omega), hFw.out.block g h3.2.1 (by omega)]) (fun _ h => h)
          obtain ⟨gg, k, x, y, nm, aw, nw, cw, ar, nr, cr, ak, nk, ck, e5, hTg, hNd, n0, n1, n2, n3, n4, n5, n6, n7⟩ := hDr.en_at hnH.out.symm ht
          obtain rfl : gg = g := by simpa using e5.symm
          have hNdH := Lib.hid hNd
          have hNH := Lib.hid hN
          have hgl := hTlt.out gg hTg
          have hQ := Lib.hid hown
          have hTTH := Lib.hid hTT
          have htH := Lib.hid ht
          clear hDr hNd hN hTg hown hTT ht
          go_upto_region 7 with fail
          obtain ⟨q6, hq6⟩ : ∃ q, wr.heap.size = q := ⟨_, rfl⟩
          obtain ⟨W2, hW2⟩ : ∃ W, wr.alloc (.cells #[.int .i64 k, .bool x, .bool y, .string nm, .slice aw nw cw, .slice ar nr cr, .slice ak nk ck, .bool t.2] 73) = W := ⟨_, rfl⟩
          have hb6 : Below wr.heap.size wr W2 := by rw [← hW2]; exact (Below.refl _ _).alloc (Nat.le_refl _) _
          have hB6 : Blk W2 q6 73 #[.int .i64 k, .bool x, .bool y, .string nm, .slice aw nw cw, .slice ar nr cr, .slice ak nk ck, .bool t.2] := by rw [← hW2, ← hq6]; exact Blk.new _ _ _
          rw [hW2, hq6]
          have hfb6 : Fb b wr W2 := Fb.of_below hb6
          have hN2 := hNH.out.keep hfb6 hlt hq5b
          have hpf2 := hI.out.pf.below hb6
          have hfw2 := hI.out.fb.trans hfb6
          have hz2 := hfb6.blk hI.out.z hqb
          have hNd2 := hNdH.out.keep (w' := W2) (fun g hg => hb6.block g (by have := (hTlt.out g hg).2.1; omega)) (fun _ h => h)
          have hb7 : Below W2.heap.size W2 (W2.alloc (.cells #[.int .i64 k, .bool x, .bool y, .string nm, .slice aw nw cw, .slice ar nr cr, .slice ak nk ck] 30)) := (Below.refl _ _).alloc (Nat.le_refl _) _
          have hs7 : (W2.alloc (.cells #[.int .i64 k, .bool x, .bool y, .string nm, .slice aw nw cw, .slice ar nr cr, .slice ak nk ck] 30)).heap.size = W2.heap.size + 1 := World.size_alloc _ _
          have hfb7 := Fb.of_below (b := b) hb7
          have hN3 := Lib.hid (hN2.keep hfb7 hlt hq5b)
          have hNd3 := Lib.hid (hNd2.keep (fun g hg => hb7.block g (by have := (hTlt.out g hg).2.1; have := hfw2.size; omega)) (fun _ h => h))
          have hpf3 := Lib.hid (hpf2.below hb7)
          have hfw3 := Lib.hid (hfw2.trans hfb7)
          have hz3 := Lib.hid (hfb7.blk hz2 hqb)
          obtain ⟨K5, hown5, hat5⟩ := hN3.out.rk.row
          have hlen : ((l.take i).map (·.1)).length = i := by rw [List.length_map, List.length_take]; have := hnH.out; omega
          have hlenH := Lib.hid hlen
          rw [hlen] at hown5
          have hown5H := Lib.hid hown5
          have hat5H := Lib.hid hat5
          have hsz2 : w0.heap.size ≤ W2.heap.size := (hF0H.out.trans hfw2).size
          have c0 : W2.cell? ⟨q5, 0, none⟩ = some (.int .i64 5) := hN2.blk.cell 0
          have c1 : W2.cell? ⟨q5, 1, none⟩ = some (.bool false) := hN2.blk.cell 1
          have c2 : W2.cell? ⟨q5, 2, none⟩ = some (.bool false) := hN2.blk.cell 2
          have c3 : W2.cell? ⟨q5, 3, none⟩ = some (.string ⟨#[]⟩) := hN2.blk.cell 3
          have c4 : W2.cell? ⟨q5, 4, none⟩ = some (.slice none 0 0) := hN2.blk.cell 4
          have c5 : W2.cell? ⟨q5, 5, none⟩ = some (.slice none 0 0) := hN2.blk.cell 5
          have c6 : W2.cell? ⟨q5, 6, none⟩ = some (.slice a5 i k5) := hN2.blk.cell 6
          have d7 : W2.cell? ⟨q6, 7, none⟩ = some (.bool t.2) := hB6.cell 7
          have d0 : W2.cell? ⟨q6, 0, none⟩ = some (.int .i64 k) := hB6.cell 0
          have d1 : W2.cell? ⟨q6, 1, none⟩ = some (.bool x) := hB6.cell 1
          have d2 : W2.cell? ⟨q6, 2, none⟩ = some (.bool y) := hB6.cell 2
          have d3 : W2.cell? ⟨q6, 3, none⟩ = some (.string nm) := hB6.cell 3
          have d4 : W2.cell? ⟨q6, 4, none⟩ = some (.slice aw nw cw) := hB6.cell 4
          have d5 : W2.cell? ⟨q6, 5, none⟩ = some (.slice ar nr cr) := hB6.cell 5
          have d6 : W2.cell? ⟨q6, 6, none⟩ = some (.slice ak nk ck) := hB6.cell 6
          clear hb6 hB6 hW2 hq6 hfb6 hN2 hpf2 hfw2 hz2 hNd2 hb7 hfb7 hown5 hat5 hlen n0 n1 n2 n3 n4 n5 n6 n7 hgl hsz
          go_wp2_with (at_builtin; refine wpList_app rfl _ _ 23 rfl w0.heap.size 30 i0 _ 7 104 Tryz.underlying23 hi0H.out hz0 hz1 hz2 rfl (by decide) (.slice a5 i k5) i (flat K5 i) (by rfl) hown5H.out (some ⟨W2.heap.size, 0, none⟩) 1 1 [.int .i64 k, .bool x, .bool y, .string nm, .slice aw nw cw, .slice ar nr cr, .slice ak nk ck] (by rfl) (by rfl) (src_blk (Blk.new W2 _ _)) (by intro u hu; simp at hu; rcases hu with rfl | rfl | rfl | rfl | rfl | rfl | rfl <;> rfl) (by omega) (by omega) (by rw [hs7]; omega) ?_; intro a6 k6 w6 hown6 hg6 ho6; have hB7 : Blk w6 q5 30 #[.int .i64 5, .bool false, .bool false, .string ⟨#[]⟩, .slice none 0 0, .slice none 0 0, .slice a5 i k5] := (hg6.block q5 hN3.out.blk.lt (fun e => hN3.out.qk e.symm)).trans hN3.out.blk; have hB7H := Lib.hid hB7; have u6 : w6.cell? ⟨q5, 6, none⟩ = some (.slice a5 i k5) := hB7.cell 6; have v6 := hB7.frozen 6; have hown6H := Lib.hid hown6; have hg6H := Lib.hid hg6; have ho6H := Lib.hid ho6; clear hB7 hown6 hg6 ho6)
          go_roundg (1 - (i + 1))
          case measure => omega
          case rel =>
            have htk : (l.take (i + 1)).map (·.1) = (l.take i).map (·.1) ++ [t.1] := by rw [List.take_add_one, htH.out]; simp
            have hkid := hN3.out.kids (W' := w6) (a' := a6) (c' := k6) (m := i + 1) (ys := [t.1]) (Tx := T) (L := fun _ => [.int .i64 k, .bool x, .bool y, .string nm, .slice aw nw cw, .slice ar nr cr, .slice ak nk ck]) ⟨K5, by rw [hlenH.out]; exact hown6H.out, hat5H.out⟩ (by rw [hlenH.out]; rfl) (fun j u hj => by
              cases j with
              | zero =>
                obtain rfl : t.1 = u := by simpa using hj
                exact hNd3.out
              | succ j => simp at hj) (fun g hg => by
              have h3 := hTlt.out g hg
              have := hfw3.out.size
              exact ⟨h3.1, by omega, h3.2.2.1, by simp [Value.ownBlock], by simp [Value.ownBlock], fun e => (hQ.out g e).1 hg⟩) hg6H.out ho6H.out
            rw [← htk] at hkid
            refine ⟨i + 1, rfl, by omega, Lib.hid ⟨(hpf3.out.grown hown5H.out (by decide) hlt hg6H.out).write hB7H.out (by decide) hq5b hq516, (hfw3.out.grown' hg6H.out (fun g hg => (hQ.out g hg).2.2)).new_ hq5w _ _, ?_, a6, k6, fun g => T5 g ∨ T g, hkid, fun g hg => ?_, fun g hg => ?_⟩⟩
            · exact (Below.heap_setCell _ _ _ _ hq52).trans ((hg6H.out.block q2 hz3.out.lt (fun e => (hQ.out q2 e.symm).2.1 rfl)).trans hz3.out)
            · rcases hg with hg | hg
              · exact hTTH.out g hg
              · exact hg
            · rcases ho6H.out with h6 | h6
              · exact hQ.out g (h6.symm.trans hg)
              · have h7 := Option.some.inj (h6.symm.trans hg)
                rw [hs7] at h7
                have := hfw3.out.size
                have h8 := hz3.out.lt
                rw [hs7] at this h8
                refine ⟨fun e => by have := (hTlt.out g e).2.1; omega, fun e => by omega, by omega⟩
    · clear hpre
      go_enter Tryz.func30, Tryz.ntmps30
      go_upto_region 1 with fail
      rw [hWH.out, hqH.out]
      go_upto_region 5 with fail
      rw [hW1H.out, hq5H.out]
      go_loopg [24] n (fun g v wr => ∃ i : Nat, v = .int .i64 (i : Int) ∧ g + i = n ∧ Hid (GaI b q2 q5 s w w0 st T l i wr))
      case atStart => exact ⟨0, rfl, rfl, hst⟩
      case round =>
        clear hst
        obtain ⟨i, rfl, hg, hI⟩ := hrel
        by_cases hi : i < n
        rotate_left
        · have hd : decide ((i : Int) < (n : Int)) = false := decide_eq_false (by omega)
          obtain rfl : n = i := by omega
          obtain ⟨a5, k5, T5, hN, hTT, hown⟩ := hI.out.nd
          have hz5 := Lib.hid hI.out.z
          have htk : (l.take n).map (·.1) = l.map (·.1) := by rw [List.take_of_length_le (Nat.le_of_eq hnH.out)]
          rw [htk] at hN
          have hNH := Lib.hid hN
          have hq2T := Lib.hid (show ¬ ndT T5 (.slice none 0 0) (.slice none 0 0) (.slice a5 n k5) q2 from fun e => by
            rcases e with e | e | e | e
            · exact hnT.out (hTT _ e)
            · simp [Value.ownBlock] at e
            · simp [Value.ownBlock] at e
            · exact (hown _ e).2.1 rfl)
          have c0 : wr.cell? ⟨q5, 0, none⟩ = some (.int .i64 5) := hN.blk.cell 0
          have c1 : wr.cell? ⟨q5, 1, none⟩ = some (.bool false) := hN.blk.cell 1
          have c2 : wr.cell? ⟨q5, 2, none⟩ = some (.bool false) := hN.blk.cell 2
          have c3 : wr.cell? ⟨q5, 3, none⟩ = some (.string ⟨#[]⟩) := hN.blk.cell 3
          have c4 : wr.cell? ⟨q5, 4, none⟩ = some (.slice none 0 0) := hN.blk.cell 4
          have c5 : wr.cell? ⟨q5, 5, none⟩ = some (.slice none 0 0) := hN.blk.cell 5
          have c6 : wr.cell? ⟨q5, 6, none⟩ = some (.slice a5 n k5) := hN.blk.cell 6
          have z0 : wr.cell? ⟨q2, 0, none⟩ = some (.int .i64 0) := hz5.out.cell 0
          have z1 : wr.cell? ⟨q2, 1, none⟩ = some (.bool false) := hz5.out.cell 1
          have z2 : wr.cell? ⟨q2, 2, none⟩ = some (.bool false) := hz5.out.cell 2
          have z3 : wr.cell? ⟨q2, 3, none⟩ = some (.string ⟨#[]⟩) := hz5.out.cell 3
          have z4 : wr.cell? ⟨q2, 4, none⟩ = some (.slice none 0 0) := hz5.out.cell 4
          have z5 : wr.cell? ⟨q2, 5, none⟩ = some (.slice none 0 0) := hz5.out.cell 5
          have z6 : wr.cell? ⟨q2, 6, none⟩ = some (.slice none 0 0) := hz5.out.cell 6
          have f0 := hz5.out.frozen 0
          have f1 := hz5.out.frozen 1
          have f2 := hz5.out.frozen 2
          have f3 := hz5.out.frozen 3
          have f4 := hz5.out.frozen 4
          have f5 := hz5.out.frozen 5
          have f6 := hz5.out.frozen 6
          clear hN htk
          go_wp2_with fail
          refine bodyPost_ret (results_cell_row rfl _ _ q2 30 #[.int .i64 5, .bool false, .bool false, .string ⟨#[]⟩, .slice none 0 0, .slice none 0 0, .slice a5 n k5] (0, 0) _ rfl (put7_blk hz5.out _ _ _ _ _ _ _) Tryz.underlying30 rfl (by kernel_rfl)) rfl ?_
          exact (NdB.hd (b := b) (w := w0) hNH.out).1.an hz5.out hq2T.out hqw hqb hq16 hI.out.pf (hF0H.out.trans hI.out.fb)
        · have hd : decide ((i : Int) < (n : Int)) = true := decide_eq_true (by omega)
          obtain ⟨t, ht⟩ : ∃ t, l[i]? = some t := ⟨_, List.getElem?_eq_getElem (by have := hnH.out; omega)⟩
          obtain ⟨a5, k5, T5, hN, hTT, hown⟩ := hI.out.nd
          have hsz := hI.out.fb.size
          have hDr := hD1.out.keep (w' := wr) (fun g hg => by
            have h3 := hTlt.out g hg
            rw [hI.out.fb.block g h3.2.1 (by omega), hFw.out.block g h3.2.1 (by omega)]) (fun _ h => h)
          obtain ⟨gg, k, x, y, nm, aw, nw, cw, ar, nr, cr, ak, nk, ck, e5, hTg, hNd, n0, n1, n2, n3, n4, n5, n6, n7⟩ := hDr.en_at hnH.out.symm ht
          subst e5
          have hNdH := Lib.hid hNd
          have hNH := Lib.hid hN
          have hgl := hTlt.out gg hTg
          have hQ := Lib.hid hown
          have hTTH := Lib.hid hTT
          have htH := Lib.hid ht
          clear hDr hNd hN hTg hown hTT ht
          go_upto_region 7 with fail
          obtain ⟨q6, hq6⟩ : ∃ q, wr.heap.size = q := ⟨_, rfl⟩
          obtain ⟨W2, hW2⟩ : ∃ W, wr.alloc (.cells #[.int .i64 k, .bool x, .bool y, .string nm, .slice aw nw cw, .slice ar nr cr, .slice ak nk ck, .bool t.2] 73) = W := ⟨_, rfl⟩
          have hb6 : Below wr.heap.size wr W2 := by rw [← hW2]; exact (Below.refl _ _).alloc (Nat.le_refl _) _
          have hB6 : Blk W2 q6 73 #[.int .i64 k, .bool x, .bool y, .string nm, .slice aw nw cw, .slice ar nr cr, .slice ak nk ck, .bool t.2] := by rw [← hW2, ← hq6]; exact Blk.new _ _ _
          rw [hW2, hq6]
          have hfb6 : Fb b wr W2 := Fb.of_below hb6
          have hN2 := hNH.out.keep hfb6 hlt hq5b
          have hpf2 := hI.out.pf.below hb6
          have hfw2 := hI.out.fb.trans hfb6
          have hz2 := hfb6.blk hI.out.z hqb
          have hNd2 := hNdH.out.keep (w' := W2) (fun g hg => hb6.block g (by have := (hTlt.out g hg).2.1; omega)) (fun _ h => h)
          have hb7 : Below W2.heap.size W2 (W2.alloc (.cells #[.int .i64 k, .bool x, .bool y, .string nm, .slice aw nw cw, .slice ar nr cr, .slice ak nk ck] 30)) := (Below.refl _ _).alloc (Nat.le_refl _) _
          have hs7 : (W2.alloc (.cells #[.int .i64 k, .bool x, .bool y, .string nm, .slice aw nw cw, .slice ar nr cr, .slice ak nk ck] 30)).heap.size = W2.heap.size + 1 := World.size_alloc _ _
          have hfb7 := Fb.of_below (b := b) hb7
          have hN3 := Lib.hid (hN2.keep hfb7 hlt hq5b)
          have hNd3 := Lib.hid (hNd2.keep (fun g hg => hb7.block g (by have := (hTlt.out g hg).2.1; have := hfw2.size; omega)) (fun _ h => h))
          have hpf3 := Lib.hid (hpf2.below hb7)
          have hfw3 := Lib.hid (hfw2.trans hfb7)
          have hz3 := Lib.hid (hfb7.blk hz2 hqb)
          obtain ⟨K5, hown5, hat5⟩ := hN3.out.rk.row
          have hlen : ((l.take i).map (·.1)).length = i := by rw [List.length_map, List.length_take]; have := hnH.out; omega
          have hlenH := Lib.hid hlen
          rw [hlen] at hown5
          have hown5H := Lib.hid hown5
          have hat5H := Lib.hid hat5
          have hsz2 : w0.heap.size ≤ W2.heap.size := (hF0H.out.trans hfw2).size
          have c0 : W2.cell? ⟨q5, 0, none⟩ = some (.int .i64 5) := hN2.blk.cell 0
          have c1 : W2.cell? ⟨q5, 1, none⟩ = some (.bool false) := hN2.blk.cell 1
          have c2 : W2.cell? ⟨q5, 2, none⟩ = some (.bool false) := hN2.blk.cell 2
          have c3 : W2.cell? ⟨q5, 3, none⟩ = some (.string ⟨#[]⟩) := hN2.blk.cell 3
          have c4 : W2.cell? ⟨q5, 4, none⟩ = some (.slice none 0 0) := hN2.blk.cell 4
          have c5 : W2.cell? ⟨q5, 5, none⟩ = some (.slice none 0 0) := hN2.blk.cell 5
          have c6 : W2.cell? ⟨q5, 6, none⟩ = some (.slice a5 i k5) := hN2.blk.cell 6
          have d7 : W2.cell? ⟨q6, 7, none⟩ = some (.bool t.2) := hB6.cell 7
          have d0 : W2.cell? ⟨q6, 0, none⟩ = some (.int .i64 k) := hB6.cell 0
          have d1 : W2.cell? ⟨q6, 1, none⟩ = some (.bool x) := hB6.cell 1
          have d2 : W2.cell? ⟨q6, 2, none⟩ = some (.bool y) := hB6.cell 2
          have d3 : W2.cell? ⟨q6, 3, none⟩ = some (.string nm) := hB6.cell 3
          have d4 : W2.cell? ⟨q6, 4, none⟩ = some (.slice aw nw cw) := hB6.cell 4
          have d5 : W2.cell? ⟨q6, 5, none⟩ = some (.slice ar nr cr) := hB6.cell 5
          have d6 : W2.cell? ⟨q6, 6, none⟩ = some (.slice ak nk ck) := hB6.cell 6
          clear hb6 hB6 hW2 hq6 hfb6 hN2 hpf2 hfw2 hz2 hNd2 hb7 hfb7 hown5 hat5 hlen n0 n1 n2 n3 n4 n5 n6 n7 hgl hsz
          go_wp2_with (at_builtin; refine wpList_app rfl _ _ 23 rfl w0.heap.size 30 i0 _ 7 104 Tryz.underlying23 hi0H.out hz0 hz1 hz2 rfl (by decide) (.slice a5 i k5) i (flat K5 i) (by rfl) hown5H.out (some ⟨W2.heap.size, 0, none⟩) 1 1 [.int .i64 k, .bool x, .bool y, .string nm, .slice aw nw cw, .slice ar nr cr, .slice ak nk ck] (by rfl) (by rfl) (src_blk (Blk.new W2 _ _)) (by intro u hu; simp at hu; rcases hu with rfl | rfl | rfl | rfl | rfl | rfl | rfl <;> rfl) (by omega) (by omega) (by rw [hs7]; omega) ?_; intro a6 k6 w6 hown6 hg6 ho6; have hB7 : Blk w6 q5 30 #[.int .i64 5, .bool false, .bool false, .string ⟨#[]⟩, .slice none 0 0, .slice none 0 0, .slice a5 i k5] := (hg6.block q5 hN3.out.blk.lt (fun e => hN3.out.qk e.symm)).trans hN3.out.blk; have hB7H := Lib.hid hB7; have u6 : w6.cell? ⟨q5, 6, none⟩ = some (.slice a5 i k5) := hB7.cell 6; have v6 := hB7.frozen 6; have hown6H := Lib.hid hown6; have hg6H := Lib.hid hg6; have ho6H := Lib.hid ho6; clear hB7 hown6 hg6 ho6)
          go_roundg (n - (i + 1))
          case measure => omega
          case rel =>
            have htk : (l.take (i + 1)).map (·.1) = (l.take i).map (·.1) ++ [t.1] := by rw [List.take_add_one, htH.out]; simp
            have hkid := hN3.out.kids (W' := w6) (a' := a6) (c' := k6) (m := i + 1) (ys := [t.1]) (Tx := T) (L := fun _ => [.int .i64 k, .bool x, .bool y, .string nm, .slice aw nw cw, .slice ar nr cr, .slice ak nk ck]) ⟨K5, by rw [hlenH.out]; exact hown6H.out, hat5H.out⟩ (by rw [hlenH.out]; rfl) (fun j u hj => by
              cases j with
              | zero =>
                obtain rfl : t.1 = u := by simpa using hj
                exact hNd3.out
              | succ j => simp at hj) (fun g hg => by
              have h3 := hTlt.out g hg
              have := hfw3.out.size
              exact ⟨h3.1, by omega, h3.2.2.1, by simp [Value.ownBlock], by simp [Value.ownBlock], fun e => (hQ.out g e).1 hg⟩) hg6H.out ho6H.out
            rw [← htk] at hkid
            refine ⟨i + 1, rfl, by omega, Lib.hid ⟨(hpf3.out.grown hown5H.out (by decide) hlt hg6H.out).write hB7H.out (by decide) hq5b hq516, (hfw3.out.grown' hg6H.out (fun g hg => (hQ.out g hg).2.2)).new_ hq5w _ _, ?_, a6, k6, fun g => T5 g ∨ T g, hkid, fun g hg => ?_, fun g hg => ?_⟩⟩
            · exact (Below.heap_setCell _ _ _ _ hq52).trans ((hg6H.out.block q2 hz3.out.lt (fun e => (hQ.out q2 e.symm).2.1 rfl)).trans hz3.out)
            · rcases hg with hg | hg
              · exact hTTH.out g hg
              · exact hg
            · rcases ho6H.out with h6 | h6
              · exact hQ.out g (h6.symm.trans hg)
              · have h7 := Option.some.inj (h6.symm.trans hg)
                rw [hs7] at h7
                have := hfw3.out.size
                have h8 := hz3.out.lt
                rw [hs7] at this h8
                refine ⟨fun e => by have := (hTlt.out g e).2.1; omega, fun e => by omega, by omega⟩
end
end Go.Proofs.YtnhbcmhinhncfaaGreatDoor
/- A body. Conditions: the parser lies as stated; a command's contract is handed in. -/
namespace Go.Proofs.YtnhbcmhinhncfaaGreatDoor
open Go.RowKit Go.Shelf Go.PlainAid
set_option linter.unusedVariables false
set_option linter.unusedSimpArgs false
attribute [local go_sem] Oper.semAt_some
theorem enters_bo1 : Enters Tryz.prog 111 := enters_of Tryz.func111 (by kernel_rfl) rfl
theorem enters_bo2 : Enters Tryz.prog 112 := enters_of Tryz.func112 (by kernel_rfl) rfl
section
variable {b : Nat} {s : ByteArray} {w : World} {st : PS} {B : Int → PS → Nd × PS} {d : Int}
set_option maxRecDepth 100000 in
set_option maxHeartbeats 8000000 in
theorem body_f (hB : ∀ (d : Int) (st : PS), PW s st → Lo s st (B d st).2) (hC : CmdC s B d) (h : PF b s w st) : Calls Tryz.prog 98 #[ptr b, .int .i64 d] w (NdAn b s w (bodP s B d st).1 (bodP s B d st).2) := by
  have hmf : ∀ (fn : Fn) (first cap : Array Value) (w : World), (Instr.makeFunc fn first cap).run Tryz.prog w = .ok (.func fn first cap) w := fun _ _ _ _ => rfl
  obtain ⟨q, hq⟩ : ∃ q, w.heap.size = q := ⟨_, rfl⟩
  obtain ⟨q3, hq3⟩ : ∃ x, w.heap.size + 1 = x := ⟨_, rfl⟩
  obtain ⟨q4, hq4⟩ : ∃ x, w.heap.size + 1 + 1 = x := ⟨_, rfl⟩
  have hlt := h.lt
  have h16 := h.b16
  have hqb : q ≠ b := by omega
  have hqb1 : q3 ≠ b := by omega
  have hqb2 : q4 ≠ b := by omega
  have hq16 : 8 ≤ q4 := by omega
  have hok := Lib.hid h.ok
  obtain ⟨W, hW⟩ : ∃ W, ((w.alloc (.cells #[ptr b] 53)).alloc (.cells #[.int .i64 d] 3)).alloc (.cells N7 30) = W := ⟨_, rfl⟩
  have e1 : (w.alloc (.cells #[ptr b] 53)).heap.size = q3 := by rw [World.size_alloc, hq3]
  have e2 : ((w.alloc (.cells #[ptr b] 53)).alloc (.cells #[.int .i64 d] 3)).heap.size = q4 := by rw [World.size_alloc, World.size_alloc, hq4]
  have hb1 : Below w.heap.size w W := by rw [← hW]; exact (((Below.refl _ _).alloc (Nat.le_refl _) _).alloc (by rw [World.size_alloc]; omega) _).alloc (by rw [World.size_alloc, World.size_alloc]; omega) _
  have hX := Lib.hid (show Bx b q W by rw [← hW, ← hq]; exact ((Blk.new _ _ _).alloc _).alloc _)
  have hI := Lib.hid (show Bi d q3 W by rw [← hW, ← e1]; exact (Blk.new _ _ _).alloc _)
  have hZ := Lib.hid (show Blk W q4 30 N7 by rw [← hW, ← e2]; exact Blk.new _ _ _)
  have hA1 := Lib.hid (h.below hb1)
  have hF1 := Lib.hid (Fb.of_below (b := b) hb1)
  have hWH := Lib.hid hW
  have hqH := Lib.hid hq
  have hq3H := Lib.hid hq3
  have hq4H := Lib.hid hq4
  have e1H := Lib.hid e1
  have e2H := Lib.hid e2
  have c0 : W.cell? ⟨q, 0, none⟩ = some (ptr b) := hX.out.cell 0
  have hnl := Lib.hid (newlines_f hA1.out)
  have hln := lo_newl h.ok
  have hr := Lib.hid (show bodP s B d st = (gather (ser s (bR s B d) (fun x => bP s x.2) (newl s st)).1, (ser s (bR s B d) (fun x => bP s x.2) (newl s st)).2) from rfl)
  obtain ⟨st2, hst2'⟩ : ∃ x, newl s st = x := ⟨_, rfl⟩
  rw [hst2'] at hnl hr hln
  have hlen := Lib.hid (ser_len (R := bR s B d) (M := fun x => bP s x.2) hln.ok)
  have hser := Lib.hid (fun (W2 : World) (h1 : Bx b q W2 ∧ Bi d q3 W2) (h2 : PF b s W2 st2) => serE_any (R := bR s B d) (M := bP s) 111 112 #[] #[ptr q, ptr q3] #[] #[ptr q] enters_bo1 enters_bo2 (fun W => Bx b q W ∧ Bi d q3 W) (fun W W' hc hf => ⟨hf.blk hc.1 hqb, hf.blk hc.2 hqb1⟩) (fun _ => True) (fun _ _ _ => trivial)
    (fun W st hc _ hp => body1_f hB hC hc.1 hqb hc.2 hp) (fun W st k x y nm aw nw cw ar nr cr ak nk ck p hc hp => body2_f k x y nm aw nw cw ar nr cr ak nk ck p hc.1 hqb hp) (fun st hp => (bod_more hB d hp).ok) (fun st hp hm => bod_less hB d hp hm) h2 h1 trivial)
  obtain ⟨A, hA⟩ : ∃ A, ser s (bR s B d) (fun x => bP s x.2) st2 = A := ⟨_, rfl⟩
  rw [hA] at hser hr hlen
  obtain ⟨l, st3⟩ := A
  rw [hr.out]
  clear hW hb1 h hq hq3 hq4 hA hC hB hst2' hln e1 e2
  go_enter Tryz.func98, Tryz.ntmps98
  go_upto_region 1 with fail
  rw [hWH.out, hq4H.out, hq3H.out, hqH.out]
  go_upto_region 3 with (go_at_call 19; refine hnl.out.mono ?_; rintro e w2 ⟨rfl, hA2, hF2⟩; have hA2H := Lib.hid hA2; have hF2H := Lib.hid (hF1.out.trans hF2); have hX2 := Lib.hid (hF2.blk hX.out hqb); have hI2 := Lib.hid (hF2.blk hI.out hqb1); have hZ2 := Lib.hid (hF2.blk hZ.out hqb2); clear hA2 hF2)
  have hcall := Lib.hid (hser.out w2 ⟨hX2.out, hI2.out⟩ hA2H.out)
  clear hser
  have key : Hid (∀ (w5 : World) (a : Option Addr) (c : Nat) (T : Nat → Prop), Done ElE 73 w5 T (.slice a l.length c) l → (∀ g, T g → w2.heap.size ≤ g ∧ g < w5.heap.size) → PF b s w5 st3 → Fb b w2 w5 → Calls Tryz.prog 30 #[.slice a l.length c] w5 (NdAn b s w2 (gather l) st3)) := Lib.hid (fun w5 a c T hD hT hp hf => gather_f hD hT hlen.out (Nat.lt_of_lt_of_le hlt hF2H.out.size) hf hp)
  go_wp2_with (first
    | (go_at_call 30; refine (key.out _ _ _ _ hDH.out hTH.out hA5H.out hF5H.out).mono ?_; rintro e w6 ⟨k, x, y, nm, aw, nw, cw, ar, nr, cr, ak, nk, ck, T6, rfl, hN, hT6, hA6, hF6⟩; have hN6 := Lib.hid hN; have hT6H := Lib.hid hT6; have hA6H := Lib.hid hA6; have hF6H := Lib.hid hF6; have hZ6 := Lib.hid (hF6.blk hZ2.out hqb2); have z0 := hZ6.out.cell 0; have z1 := hZ6.out.cell 1; have z2 := hZ6.out.cell 2; have z3 := hZ6.out.cell 3; have z4 := hZ6.out.cell 4; have z5 := hZ6.out.cell 5; have z6 := hZ6.out.cell 6; have g0 := hZ6.out.frozen 0; have g1 := hZ6.out.frozen 1; have g2 := hZ6.out.frozen 2; have g3 := hZ6.out.frozen 3; have g4 := hZ6.out.frozen 4; have g5 := hZ6.out.frozen 5; have g6 := hZ6.out.frozen 6; clear hN hT6 hA6 hF6)
    | (go_at_call 31; refine hcall.out.mono ?_; rintro e w5 ⟨a, c, T, rfl, hD, hT, hA5, hF5⟩; have hDH := Lib.hid hD; have hTH := Lib.hid hT; have hA5H := Lib.hid hA5; have hF5H := Lib.hid hF5; clear hD hT hA5 hF5))
  refine bodyPost_ret (results_cell_row rfl _ _ q4 30 #[.int .i64 k, .bool x, .bool y, .string nm, .slice aw nw cw, .slice ar nr cr, .slice ak nk ck] (0, 0) _ rfl (put7_blk hZ6.out _ _ _ _ _ _ _) Tryz.underlying30 rfl (by kernel_rfl)) rfl ?_
  exact (show Hd b w (gather l) k x y nm aw nw cw ar nr cr ak nk ck T6 w6 from ⟨hN6.out, fun g hg => ⟨Nat.le_trans hF2H.out.size (hT6H.out g hg).1, (hT6H.out g hg).2⟩⟩).an hZ6.out (fun e => by have := (hT6H.out q4 e).1; have := hZ2.out.lt; omega) (by have := hq4H.out; omega) hqb2 hq16 hA6H.out (hF2H.out.trans hF6H.out)
end
end Go.Proofs.YtnhbcmhinhncfaaGreatDoor
/- A complete command's list. Conditions: the parser lies as stated; a command's contract is handed in. -/
namespace Go.Proofs.YtnhbcmhinhncfaaGreatDoor
open Go.RowKit Go.Shelf Go.PlainAid
set_option linter.unusedVariables false
set_option linter.unusedSimpArgs false
attribute [local go_sem] Oper.semAt_some
theorem enters_li1 : Enters Tryz.prog 32 := enters_of Tryz.func32 (by kernel_rfl) rfl
theorem enters_li2 : Enters Tryz.prog 34 := enters_of Tryz.func34 (by kernel_rfl) rfl
section
variable {b : Nat} {s : ByteArray} {w : World} {st : PS} {B : Int → PS → Nd × PS} {d : Int}
/-- How a list goes on. -/
abbrev lM (s : ByteArray) (p : Bool) (st : PS) : Bool × PS := (p && (peekP s st).kind != 3 && (peekP s st).kind != 0, fill s st)
set_option maxRecDepth 100000 in
set_option maxHeartbeats 4000000 in
theorem list1_f {q2 : Nat} (hB : ∀ (d : Int) (st : PS), PW s st → Lo s st (B d st).2) (hC : CmdC s B 0) (hb2 : Bx b q2 w) (hq2 : q2 ≠ b) (h : PF b s w st) : Calls Tryz.prog 32 #[ptr q2] w (EnAn b s w (entP s B 0 st).1 (entP s B 0 st).2) := by
  obtain ⟨q, hq⟩ : ∃ q, w.heap.size = q := ⟨_, rfl⟩
  have hlt := h.lt
  have h16 := h.b16
  have hqb : q ≠ b := by omega
  have hq16 : 8 ≤ q := by omega
  obtain ⟨W, hW⟩ : ∃ W, w.alloc (.cells N8 73) = W := ⟨_, rfl⟩
  have hb1 : Below w.heap.size w W := by rw [← hW]; exact (Below.refl _ _).alloc (Nat.le_refl _) _
  have hZ := Lib.hid (show Blk W q 73 N8 by rw [← hW, ← hq]; exact Blk.new _ _ _)
  have hF1 := Lib.hid (Fb.of_below (b := b) hb1)
  have hc := Lib.hid (entry_f hB hC (h.below hb1))
  have e2 : W.cell? ⟨q2, 0, none⟩ = some (ptr b) := by rw [← hW]; exact (hb2.alloc _).cell 0
  have hWH := Lib.hid hW
  have hqH := Lib.hid hq
  obtain ⟨A, hA⟩ : ∃ A, entP s B 0 st = A := ⟨_, rfl⟩
  rw [hA] at hc ⊢
  obtain ⟨⟨n, p⟩, st2⟩ := A
  clear hW hb1 h hq hA hC hb2 hB
  go_enter Tryz.func32, Tryz.ntmps32
  go_upto_region 1 with fail
  rw [hWH.out, hqH.out]
  go_wp2_with (go_at_call 33; refine hc.out.mono ?_; rintro e w5 ⟨k, x, y, nm, aw, nw, cw, ar, nr, cr, ak, nk, ck, T, rfl, hN, hT, hA5, hF5⟩; have hN5 := Lib.hid hN; have hT5 := Lib.hid hT; have hA5H := Lib.hid hA5; have hF5H := Lib.hid (hF1.out.trans hF5); have hZ5 := Lib.hid (hF5.blk hZ.out hqb); clear hN hT hA5 hF5; have z0 := hZ5.out.cell 0; have z1 := hZ5.out.cell 1; have z2 := hZ5.out.cell 2; have z3 := hZ5.out.cell 3; have z4 := hZ5.out.cell 4; have z5 := hZ5.out.cell 5; have z6 := hZ5.out.cell 6; have z7 := hZ5.out.cell 7; have g0 := hZ5.out.frozen 0; have g1 := hZ5.out.frozen 1; have g2 := hZ5.out.frozen 2; have g3 := hZ5.out.frozen 3; have g4 := hZ5.out.frozen 4; have g5 := hZ5.out.frozen 5; have g6 := hZ5.out.frozen 6; have g7 := hZ5.out.frozen 7)
  refine bodyPost_ret (results_cell_row rfl _ _ q 73 #[.int .i64 k, .bool x, .bool y, .string nm, .slice aw nw cw, .slice ar nr cr, .slice ak nk ck, .bool p] (0, 0) _ rfl (put8_blk hZ5.out _ _ _ _ _ _ _ _) Tryz.underlying73 rfl (by kernel_rfl)) rfl ?_
  have hHd : Hd b w n k x y nm aw nw cw ar nr cr ak nk ck T w5 := ⟨hN5.out, fun g hg => ⟨Nat.le_trans hF1.out.size (hT5.out g hg).1, (hT5.out g hg).2⟩⟩
  exact hHd.en hZ5.out (fun e => by have := (hT5.out q e).1; have := hZ.out.lt; omega) (Nat.le_of_eq hqH.out) hqb hq16 hA5H.out hF5H.out
set_option maxRecDepth 100000 in
set_option maxHeartbeats 4000000 in
theorem list2_f {q2 : Nat} (k : Int) (x y : Bool) (nm : ByteArray) (aw : Option Addr) (nw cw : Nat) (ar : Option Addr) (nr cr : Nat) (ak : Option Addr) (nk ck : Nat) (p : Bool) (hb2 : Bx b q2 w) (hq2 : q2 ≠ b) (h : PF b s w st) :
    Calls Tryz.prog 34 #[.agg #[.int .i64 k, .bool x, .bool y, .string nm, .slice aw nw cw, .slice ar nr cr, .slice ak nk ck, .bool p], ptr q2] w (An b s w (.bool (lM s p st).1) (lM s p st).2) := by
  obtain ⟨q, hq⟩ : ∃ q, w.heap.size = q := ⟨_, rfl⟩
  obtain ⟨W, hW⟩ : ∃ W, w.alloc (.cells #[.int .i64 k, .bool x, .bool y, .string nm, .slice aw nw cw, .slice ar nr cr, .slice ak nk ck, .bool p] 73) = W := ⟨_, rfl⟩
  have hb1 : Below w.heap.size w W := by rw [← hW]; exact (Below.refl _ _).alloc (Nat.le_refl _) _
  have hX := Lib.hid (show Bx b q2 W by rw [← hW]; exact hb2.alloc _)
  have hE := Lib.hid (show Blk W q 73 #[.int .i64 k, .bool x, .bool y, .string nm, .slice aw nw cw, .slice ar nr cr, .slice ak nk ck, .bool p] by rw [← hW, ← hq]; exact Blk.new _ _ _)
  have hA1 := Lib.hid (h.below hb1)
  have hF1 := Lib.hid (Fb.of_below (b := b) hb1)
  have hc := Lib.hid (peek_f hA1.out)
  obtain ⟨t, ho⟩ : ∃ x, peekP s st = x := ⟨_, rfl⟩
  have hr := Lib.hid (show lM s p st = (p && t.kind != 3 && t.kind != 0, fill s st) by rw [← ho])
  rw [ho] at hc
  rw [hr.out]
  have c0 : W.cell? ⟨q2, 0, none⟩ = some (ptr b) := hX.out.cell 0
  have e7 : W.cell? ⟨q, 7, none⟩ = some (.bool p) := hE.out.cell 7
  have hWH := Lib.hid hW
  have hqH := Lib.hid hq
  have hqb : q ≠ b := by have := h.lt; omega
  clear hW hb1 h hb2 ho hq
  obtain ⟨k0, hk0⟩ : ∃ k, t.kind = k := ⟨_, rfl⟩
  rw [hk0]
  have hk0H := Lib.hid hk0
  have f0 := fld0 t
  clear hk0
  go_enter Tryz.func34, Tryz.ntmps34
  go_upto_region 1 with fail
  rw [hWH.out, hqH.out]
  go_upto_region 2 with (go_at_call 20; refine hc.out.mono ?_; rintro e w2 ⟨rfl, hA2, hF2⟩; have hA2H := Lib.hid hA2; have hF2H := Lib.hid hF2; have hE2 := Lib.hid (hF2.blk hE.out hqb); have f7 : w2.cell? ⟨q, 7, none⟩ = some (.bool p) := hE2.out.cell 7; clear hA2 hF2; dsimp only [tkV])
  rw [hk0H.out]
  have h3 : k0 = 3 ∨ ¬ k0 = 3 := Int.decEq k0 3 |>.em
  have h0 : k0 = 0 ∨ ¬ k0 = 0 := Int.decEq k0 0 |>.em
  cases p
  · go_wp2_with fail
    go_ret
    exact ⟨rfl, PF.fill hA2H.out, hF1.out.trans hF2H.out⟩
  · rcases h3 with h3 | h3
    · subst h3
      go_wp2_with fail
      go_ret
      exact ⟨rfl, PF.fill hA2H.out, hF1.out.trans hF2H.out⟩
    · rcases h0 with h0 | h0
      · subst h0
        go_wp2_with fail
        go_ret
        exact ⟨rfl, PF.fill hA2H.out, hF1.out.trans hF2H.out⟩
      · go_wp2_with fail
        go_ret
        exact ⟨by simp [h3, h0], PF.fill hA2H.out, hF1.out.trans hF2H.out⟩
set_option maxRecDepth 100000 in
set_option maxHeartbeats 8000000 in
theorem list_f (hB : ∀ (d : Int) (st : PS), PW s st → Lo s st (B d st).2) (hC : CmdC s B 0) (h : PF b s w st) : Calls Tryz.prog 21 #[ptr b] w (NdAn b s w (gather (ser s (entP s B 0) (fun x => lM s x.2) st).1) (ser s (entP s B 0) (fun x => lM s x.2) st).2) := by
  have hmf : ∀ (fn : Fn) (first cap : Array Value) (w : World), (Instr.makeFunc fn first cap).run Tryz.prog w = .ok (.func fn first cap) w := fun _ _ _ _ => rfl
  obtain ⟨q, hq⟩ : ∃ q, w.heap.size = q := ⟨_, rfl⟩
  obtain ⟨q4, hq4⟩ : ∃ x, w.heap.size + 1 = x := ⟨_, rfl⟩
  have hlt := h.lt
  have h16 := h.b16
  have hqb : q ≠ b := by omega
  have hqb2 : q4 ≠ b := by omega
  have hq16 : 8 ≤ q4 := by omega
  obtain ⟨w2, hW⟩ : ∃ W, (w.alloc (.cells #[ptr b] 53)).alloc (.cells N7 30) = W := ⟨_, rfl⟩
  have e1 : (w.alloc (.cells #[ptr b] 53)).heap.size = q4 := by rw [World.size_alloc, hq4]
  have hb1 : Below w.heap.size w w2 := by rw [← hW]; exact ((Below.refl _ _).alloc (Nat.le_refl _) _).alloc (by rw [World.size_alloc]; omega) _
  have hX2 := Lib.hid (show Bx b q w2 by rw [← hW, ← hq]; exact (Blk.new _ _ _).alloc _)
  have hZ2 := Lib.hid (show Blk w2 q4 30 N7 by rw [← hW, ← e1]; exact Blk.new _ _ _)
  have hA2H := Lib.hid (h.below hb1)
  have hF2H := Lib.hid (Fb.of_below (b := b) hb1)
  have hWH := Lib.hid hW
  have hqH := Lib.hid hq
  have hq4H := Lib.hid hq4
  have hlen := Lib.hid (ser_len (R := entP s B 0) (M := fun x => lM s x.2) h.ok)
  have hcall := Lib.hid (serE_any (b := b) (w := w2) (st := st) (s := s) (R := entP s B 0) (M := lM s) 32 34 #[] #[ptr q] #[] #[ptr q] enters_li1 enters_li2 (fun W => Bx b q W) (fun W W' hc hf => hf.blk hc hqb) (fun _ => True) (fun _ _ _ => trivial)
    (fun W st hc _ hp => list1_f hB hC hc hqb hp) (fun W st k x y nm aw nw cw ar nr cr ak nk ck p hc hp => list2_f k x y nm aw nw cw ar nr cr ak nk ck p hc hqb hp) (fun st hp => ((lo_ent hB 0 hp).trans (lo_fill (lo_ent hB 0 hp).ok)).ok) (fun st hp hm => by
      have h5 : ((entP s B 0 st).1.2 && (peekP s (entP s B 0 st).2).kind != 3 && (peekP s (entP s B 0 st).2).kind != 0) = true := hm
      rw [Bool.and_assoc, Bool.and_eq_true] at h5
      have h6 := ent_less hB 0 hp h5.1
      have h7 := (lo_fill (lo_ent hB 0 hp).ok).le
      show rem s (fill s (entP s B 0 st).2) < _
      omega) hA2H.out hX2.out trivial)
  obtain ⟨A, hA⟩ : ∃ A, ser s (entP s B 0) (fun x => lM s x.2) st = A := ⟨_, rfl⟩
  rw [hA] at hcall hlen ⊢
  obtain ⟨l, st3⟩ := A
  clear hW hb1 h hq hq4 hA hC hB e1
  go_enter Tryz.func21, Tryz.ntmps21
  go_upto_region 1 with fail
  rw [hWH.out, hq4H.out, hqH.out]
  have key : Hid (∀ (w5 : World) (a : Option Addr) (c : Nat) (T : Nat → Prop), Done ElE 73 w5 T (.slice a l.length c) l → (∀ g, T g → w2.heap.size ≤ g ∧ g < w5.heap.size) → PF b s w5 st3 → Fb b w2 w5 → Calls Tryz.prog 30 #[.slice a l.length c] w5 (NdAn b s w2 (gather l) st3)) := Lib.hid (fun w5 a c T hD hT hp hf => gather_f hD hT hlen.out (Nat.lt_of_lt_of_le hlt hF2H.out.size) hf hp)
  go_wp2_with (first
    | (go_at_call 30; refine (key.out _ _ _ _ hDH.out hTH.out hA5H.out hF5H.out).mono ?_; rintro e w6 ⟨k, x, y, nm, aw, nw, cw, ar, nr, cr, ak, nk, ck, T6, rfl, hN, hT6, hA6, hF6⟩; have hN6 := Lib.hid hN; have hT6H := Lib.hid hT6; have hA6H := Lib.hid hA6; have hF6H := Lib.hid hF6; have hZ6 := Lib.hid (hF6.blk hZ2.out hqb2); have z0 := hZ6.out.cell 0; have z1 := hZ6.out.cell 1; have z2 := hZ6.out.cell 2; have z3 := hZ6.out.cell 3; have z4 := hZ6.out.cell 4; have z5 := hZ6.out.cell 5; have z6 := hZ6.out.cell 6; have g0 := hZ6.out.frozen 0; have g1 := hZ6.out.frozen 1; have g2 := hZ6.out.frozen 2; have g3 := hZ6.out.frozen 3; have g4 := hZ6.out.frozen 4; have g5 := hZ6.out.frozen 5; have g6 := hZ6.out.frozen 6; clear hN hT6 hA6 hF6)
    | (go_at_call 31; refine hcall.out.mono ?_; rintro e w5 ⟨a, c, T, rfl, hD, hT, hA5, hF5⟩; have hDH := Lib.hid hD; have hTH := Lib.hid hT; have hA5H := Lib.hid hA5; have hF5H := Lib.hid hF5; clear hD hT hA5 hF5))
  refine bodyPost_ret (results_cell_row rfl _ _ q4 30 #[.int .i64 k, .bool x, .bool y, .string nm, .slice aw nw cw, .slice ar nr cr, .slice ak nk ck] (0, 0) _ rfl (put7_blk hZ6.out _ _ _ _ _ _ _) Tryz.underlying30 rfl (by kernel_rfl)) rfl ?_
  exact (show Hd b w (gather l) k x y nm aw nw cw ar nr cr ak nk ck T6 w6 from ⟨hN6.out, fun g hg => ⟨Nat.le_trans hF2H.out.size (hT6H.out g hg).1, (hT6H.out g hg).2⟩⟩).an hZ6.out (fun e => by have := (hT6H.out q4 e).1; have := hZ2.out.lt; omega) (by have := hq4H.out; omega) hqb2 hq16 hA6H.out (hF2H.out.trans hF6H.out)
end
end Go.Proofs.YtnhbcmhinhncfaaGreatDoor
