/- bracket. Condition: lengths. -/
import Derived.Test.YtlaidmjlgjpgcaaPatF
import Derived.Test.YtlaidmjlgjpgcaaSplH
namespace Go.Proofs.Ytlaidmjlgjpgcaa
open Go.RowKit Go.Shelf Go.PlainAid
attribute [local go_sem] Oper.semAt_some

theorem keepM_b {n₀ Ba Bl : Nat} {w : World} (hn : n₀ ≤ w.heap.size) (ha : Ba < w.heap.size) (hl2 : Bl < w.heap.size) (W : World) (l : Nat) (o o' : Obj) (hl : w.heap.size ≤ l) (h : W.heap[l]? = some o) (h1 : o.isCells = false) (h2 : o.isWalk = false) : KeepM n₀ Ba Bl W (W.putObj l o') :=
  ⟨belowK_b hn W l o o' hl h h1 h2, World.putObj_heap_other (by omega), World.putObj_heap_other (by omega)⟩
def emp : UInt8 → Bool := fun _ => false
/-- Between two members. -/
def LoopM (n₀ b6 b9 a : Nat) (w : World) (pre : List (Mem × Nat)) (W : World) : Prop :=
  (ElB W b6 false (brF pre (emp, a)).1 ∧ Boxed W b9 3 (.int .i64 ((brF pre (emp, a)).2 : Int)) ∧ ElB W n₀ false emp ∧ b9 + 3 ≤ W.heap.size) ∧ Below n₀ w W
theorem brF_snoc (l : List (Mem × Nat)) (m : Mem × Nat) (r : (UInt8 → Bool) × Nat) : brF (l ++ [m]) r = (fun c => (brF l r).1 c || inMem m.1 c, m.2) := by
  unfold brF; rw [List.foldl_append]; rfl
theorem ElB.same2 {X Y : World} {g : Nat} {st : Bool} {S : UInt8 → Bool} (h : ElB X g st S) (hs : Same X Y) : ElB Y g st S := by
  obtain ⟨x, h1, h2⟩ := h
  exact ⟨x, (hs _ _ _ _ h1).trans h1, h2⟩
theorem loopM_own {n₀ b6 b9 a B : Nat} {w : World} (hn : n₀ ≤ w.heap.size) (hB : n₀ ≤ B) : OwnFrom B (LoopM n₀ b6 b9 a w) := by
  rintro pre X Y row ⟨⟨h1, h2, h3, h5⟩, h4⟩ hg hr
  have hs := same_of hg (fun r e => (hr r e).2)
  exact ⟨⟨h1.same2 hs, (hs _ _ _ _ h2).trans h2, h3.same2 hs, Nat.le_trans h5 hg.size⟩, ownFrom_below (β := Unit) hn hB () X Y row h4 hg hr⟩
theorem span_one (b c : UInt8) : (c == b) = (emp c || inSp ⟨b, b⟩ c) := by
  unfold emp inSp
  rw [Bool.false_or, Bool.eq_iff_iff, beq_iff_eq, decide_eq_true_iff]
  exact ⟨fun h => by subst h; exact ⟨Nat.le_refl _, Nat.le_refl _⟩, fun h => UInt8.toNat_inj.1 (by have h1 : b.toNat ≤ c.toNat := h.1; have h2 : c.toNat ≤ b.toNat := h.2; omega)⟩
/-- What bracket gives. -/
def brR (p : List Ch) (i : Nat) : (UInt8 → Bool) × Nat := match brAt p i with | some r => r | none => (fun c => c == 91, i + 1)
def BracketR (r : (UInt8 → Bool) × Nat) (w : World) (e : Ending) (w' : World) : Prop :=
  Below w.heap.size w w' ∧ ∃ x, Rep x r.1 ∧ e = .returned (.tuple #[.agg (elV false x), .int .i64 (r.2 : Int)])
theorem emp_rep : Rep (fun _ => 0) emp := ⟨fun k hk => by show (0 : Nat) < _; omega, fun c => by simp [emp]⟩

theorem five_cells {W : World} {g : Nat} {t : TypeId} {a b c d e : Value} (h : Blk W g t #[a, b, c, d, e]) :
    (W.cell? ⟨g, 0, none⟩ = some a ∧ W.cell? ⟨g, 1, none⟩ = some b ∧ W.cell? ⟨g, 2, none⟩ = some c ∧ W.cell? ⟨g, 3, none⟩ = some d ∧ W.cell? ⟨g, 4, none⟩ = some e) ∧
    (W.frozen? ⟨g, 0, none⟩ = false ∧ W.frozen? ⟨g, 1, none⟩ = false ∧ W.frozen? ⟨g, 2, none⟩ = false ∧ W.frozen? ⟨g, 3, none⟩ = false ∧ W.frozen? ⟨g, 4, none⟩ = false) :=
  ⟨⟨h.cell 0, h.cell 1, h.cell 2, h.cell 3, h.cell 4⟩, h.frozen 0, h.frozen 1, h.frozen 2, h.frozen 3, h.frozen 4⟩
def set5 (W : World) (g : Nat) (a b c d e : Value) : World := ((((W.setCell ⟨g, 0, none⟩ a).setCell ⟨g, 1, none⟩ b).setCell ⟨g, 2, none⟩ c).setCell ⟨g, 3, none⟩ d).setCell ⟨g, 4, none⟩ e
theorem set5_blk {W : World} {g : Nat} {t : TypeId} {a b c d e a' b' c' d' e' : Value} (h : Blk W g t #[a', b', c', d', e']) : Blk (set5 W g a b c d e) g t #[a, b, c, d, e] :=
  ((((h.set_ 0 a).set_ 1 b).set_ 2 c).set_ 3 d).set_ 4 e
theorem set5_below {B : Nat} {w W : World} {g : Nat} (h : Below B w W) (hg : B ≤ g) (a b c d e : Value) : Below B w (set5 W g a b c d e) :=
  ((((h.setCell (p := ⟨g, 0, none⟩) hg _).setCell (p := ⟨g, 1, none⟩) hg _).setCell (p := ⟨g, 2, none⟩) hg _).setCell (p := ⟨g, 3, none⟩) hg _).setCell (p := ⟨g, 4, none⟩) hg _
theorem set5_other {W : World} {g k : Nat} (h : k ≠ g) (a b c d e : Value) : (set5 W g a b c d e).heap[k]? = W.heap[k]? := by
  unfold set5
  rw [Below.heap_setCell _ _ _ _ (by simpa using h), Below.heap_setCell _ _ _ _ (by simpa using h), Below.heap_setCell _ _ _ _ (by simpa using h), Below.heap_setCell _ _ _ _ (by simpa using h), Below.heap_setCell _ _ _ _ (by simpa using h)]

/-- Within a member's round. -/
structure InB (n₀ b9 Ba Bl : Nat) (w W : World) (S : UInt8 → Bool) (en : Nat) (X : World) : Prop where
  oth : KeepsOthers W X
  kee : KeepM n₀ Ba Bl W X
  e6 : ElB X (n₀ + 1) false S
  e9 : Boxed X b9 3 (.int .i64 (en : Int))
  e4 : ElB X n₀ false emp
  be : Below n₀ w X
theorem InB.alloc {n₀ b9 Ba Bl : Nat} {w W X : World} {S : UInt8 → Bool} {en : Nat} (h : InB n₀ b9 Ba Bl w W S en X) (hn : n₀ ≤ X.heap.size) (ha : Ba < X.heap.size) (hl : Bl < X.heap.size) (o : Obj) : InB n₀ b9 Ba Bl w W S en (X.alloc o) :=
  ⟨h.oth.trans (KeepsOthers.alloc _ _), ⟨h.kee.1.alloc hn _, (Below.heap_alloc _ _ _ ha).trans h.kee.2.1, (Below.heap_alloc _ _ _ hl).trans h.kee.2.2⟩, h.e6.same (Below.heap_alloc _ _ _ h.e6.lt), (Below.heap_alloc _ _ _ h.e9.lt).trans h.e9, h.e4.same (Below.heap_alloc _ _ _ h.e4.lt), h.be.alloc hn _⟩
theorem InB.grown {n₀ b9 Ba Bl : Nat} {w W X Y : World} {S S' : UInt8 → Bool} {en : Nat} (h : InB n₀ b9 Ba Bl w W S en X) (hg : X.grownBy Y (some (n₀ + 1))) (h6 : ElB Y (n₀ + 1) false S') (h9 : b9 ≠ n₀ + 1) (ha : Ba < X.heap.size) (hl : Bl < X.heap.size) (ha2 : Ba ≠ n₀ + 1) (hl2 : Bl ≠ n₀ + 1) (hn : n₀ ≤ X.heap.size) : InB n₀ b9 Ba Bl w W S' en Y := by
  have hb : Below n₀ X Y := (Below.refl _ _).grown hg hn (fun j ej => by have := Option.some.inj ej; omega)
  refine ⟨h.oth.trans (KeepsOthers.of_grownBy hg (fun j o ej hj => ?_)), ⟨h.kee.1.trans hb, (hg.block _ ha (by simpa using ha2)).trans h.kee.2.1, (hg.block _ hl (by simpa using hl2)).trans h.kee.2.2⟩, h6, (hg.block _ h.e9.lt (by simpa using h9)).trans h.e9, h.e4.same (hg.block _ h.e4.lt (by simp)), h.be.trans hb⟩
  obtain rfl := Option.some.inj ej
  obtain ⟨x, hx, _⟩ := h.e6
  unfold Blk at hx
  rw [hx] at hj; cases hj; rfl
def inMemK (m : Mem) (k : Nat) (c : UInt8) : Bool := (decide (0 < k) && inSp m.1 c) || (decide (1 < k) && inSp m.2.1 c) || (decide (2 < k) && inSp m.2.2 c)
theorem inMemK_0 (m : Mem) (c : UInt8) : inMemK m 0 c = false := by unfold inMemK; simp
theorem inMemK_1 (m : Mem) (c : UInt8) : inMemK m 1 c = (inMemK m 0 c || inSp m.1 c) := by unfold inMemK; simp
theorem inMemK_2 (m : Mem) (c : UInt8) : inMemK m 2 c = (inMemK m 1 c || inSp m.2.1 c) := by unfold inMemK; simp
theorem inMemK_3 (m : Mem) (c : UInt8) : inMemK m 3 c = (inMemK m 2 c || inSp m.2.2 c) := by unfold inMemK; simp
theorem inMemK_all (m : Mem) (c : UInt8) : inMemK m 3 c = inMem m c := by unfold inMemK inMem; simp
/-- The frame of a round. -/
def frB (g off n cv i n₀ a b9 : Nat) (tb : Bool) (u : Nat → Value) (Bx : Nat) (m : Mem × Nat) : Act :=
  { tmps := #[.slice (some ⟨g, off, none⟩) n cv, .int .i64 (i : Int), undef, undef, .pointer (some ⟨n₀, 0, none⟩), .int .i64 0, .pointer (some ⟨n₀ + 1, 0, none⟩), .int .i64 (a : Int), .bool tb, .pointer (some ⟨b9, 0, none⟩), .pointer (some ⟨Bx, 0, none⟩), .int .i64 (m.2 : Int), undef, undef, undef, .int .i64 (i : Int), .int .i64 ((i : Int) + 1), u 17, u 18, u 19, u 20, u 21, .bool tb, u 23, u 24, .int .i64 (a : Int), .slice (some ⟨g, off, none⟩) n cv, .int .i64 (a : Int),
      .func (.func 61) #[] #[.pointer (some ⟨b9 + 1 + 1, 0, none⟩), .pointer (some ⟨b9 + 1, 0, none⟩)], memV m.1, .int .i64 (m.2 : Int), u 31, u 32, u 33, u 34, u 35, u 36, u 37, u 38, u 39, u 40, u 41, u 42, u 43, u 44, u 45, u 46, u 47, u 48, u 49, u 50, u 51, u 52], defers := [] }

set_option maxRecDepth 100000 in
set_option maxHeartbeats 4000000 in
theorem bracket_in (av : Option Addr) (n cv : Nat) (p : List Ch) (i : Nat) (w : World) (hn : p.length = n) (hP : ChsAt w.heap.size w av p) (hn2 : n ≤ 1000000) (hi : i + 1 < n) :
    CallsIn Fence.wide 8 Try.prog 50 #[.slice av n cv, .int .i64 (i : Int)] w (BracketR (brR p i) w) := by
  refine callsIn_of_wp_marks Try.func50 rfl trivial ?_ rfl
  simp only [Try.ntmps50, List.size_toArray, List.length_cons, List.length_nil, Nat.reduceAdd, Nat.reduceSub, Array.replicate_succ, Array.replicate_zero, List.push_toArray, List.append_toArray, List.nil_append, List.cons_append]
  obtain ⟨n₀, hn₀⟩ : ∃ n₀, w.heap.size = n₀ := ⟨_, rfl⟩
  have hn₀w : n₀ ≤ w.heap.size := by omega
  have hn₀H := Lib.hid hn₀
  have hnH := Lib.hid hn
  rw [hn₀] at hP
  obtain ⟨x1, hx1⟩ : ∃ x, p[i + 1]? = some x := ⟨_, List.getElem?_eq_getElem (by rw [hn]; exact hi)⟩
  have hPH := Lib.hid hP
  obtain ⟨W0, hW0⟩ : ∃ W0, (w.alloc (.cells (elV false fun _ => 0) 82)).alloc (.cells (elV false fun _ => 0) 82) = W0 := ⟨_, rfl⟩
  have hB0 : Hid (Below n₀ w W0) := Lib.hid (by rw [← hW0, ← hn₀]; exact ((Below.refl _ _).alloc (Nat.le_refl _) _).alloc (by simp) _)
  have hE4 : Hid (ElB W0 n₀ false emp) := Lib.hid ⟨_, by rw [← hW0, ← hn₀]; exact (Blk.new _ _ _).alloc _, emp_rep⟩
  have hE6 : Hid (ElB W0 (n₀ + 1) false emp) := Lib.hid ⟨_, by
    rw [← hW0, ← hn₀]
    have h := Blk.new (w.alloc (.cells (elV false fun _ => 0) 82)) 82 (elV false fun _ => 0)
    rw [World.size_alloc] at h; exact h, emp_rep⟩
  have hs0 := hE6.out.lt
  obtain ⟨g, off, rfl, hg, c0, c1⟩ := (hP.below hB0.out) (i + 1) x1 hx1
  have ht : Hid (isAt p (i + 1) 33 = bareB x1 33) := Lib.hid (isAt_some hx1)
  have hW : Hid ((w.alloc (.cells #[.bool false, .int .u64 0, .int .u64 0, .int .u64 0, .int .u64 0] 82)).alloc (.cells #[.bool false, .int .u64 0, .int .u64 0, .int .u64 0, .int .u64 0] 82) = W0) := Lib.hid hW0
  have hi' : (i : Int) + 1 < (n : Int) := by omega
  have hBr := Below.refl W0.heap.size W0
  clear hW0 hP hx1 hn
  gi_upto_region 3 with fail
  rw [hW.out]
  gi_cut [7, 8] from 22 (fun s7 s8 wx => s7 = .int .i64 ((i + 1 : Nat) : Int) ∧ s8 = .bool (isAt p (i + 1) 33) ∧ Below W0.heap.size W0 wx)
  case first =>
    gi_wp2_with (refine ⟨trivial, ?_⟩; gi_at_call 36; (with_reducible refine (callsIn_wide.2 (bare33 _ hBr (Nat.le_refl _))).mono ?_); rintro e w7 ⟨rfl, hb7⟩)
    gi_meet
    exact ⟨rfl, by rw [ht.out], hb7⟩
  case rest =>
    obtain ⟨rfl, rfl, hbc⟩ := hcut
    have hE4c : Hid (ElB wc n₀ false emp) := Lib.hid (hE4.out.same (hbc.block _ (by omega)))
    have hE6c : Hid (ElB wc (n₀ + 1) false emp) := Lib.hid (hE6.out.same (hbc.block _ hs0))
    have hBc : Hid (Below n₀ w wc) := Lib.hid (hB0.out.trans (hbc.mono (by omega)))
    have hcs := hbc.size
    obtain ⟨tb, htb⟩ : ∃ tb, isAt p (i + 1) 33 = tb := ⟨_, rfl⟩
    have htbH := Lib.hid htb
    have hA : Hid (brA p i = if tb = true then i + 2 else i + 1) := Lib.hid (by unfold brA; rw [htb])
    rw [htb]
    clear hbc hBr c0 c1 ht htb
    gi_upto_if 22 with fail
    gi_cut [7] from 23 (fun s7 wx => s7 = .int .i64 ((brA p i : Nat) : Int) ∧ wc = wx)
    case first =>
      cases tb
      · gi_wp2
        gi_meet
        exact ⟨by rw [hA.out]; rfl, rfl⟩
      · gi_wp2
        gi_meet
        exact ⟨by rw [hA.out]; show Value.int .i64 ((i : Int) + 1 + 1) = .int .i64 ((i + 2 : Nat) : Int); go_num, rfl⟩
    case rest =>
      obtain ⟨rfl, rfl⟩ := hcut
      obtain ⟨a, ha⟩ : ∃ a, brA p i = a := ⟨_, rfl⟩
      have haH := Lib.hid ha
      have han : a ≤ n := by rw [← ha, hA.out]; split <;> omega
      rw [ha]
      clear ha
      obtain ⟨b9, hb9⟩ : ∃ b9, wc.heap.size = b9 := ⟨_, rfl⟩
      have hb9H := Lib.hid hb9
      have hb9n : n₀ + 2 ≤ b9 := by omega
      obtain ⟨W1, hW1⟩ : ∃ W1, wc.alloc (.cells #[.int .i64 (a : Int)] 3) = W1 := ⟨_, rfl⟩
      have h9 : Hid (Boxed W1 b9 3 (.int .i64 (a : Int))) := Lib.hid (by rw [← hW1, ← hb9]; exact World.alloc_heap_new _ _)
      have hs1 : W1.heap.size = b9 + 1 := by rw [← hW1, World.size_alloc, hb9]
      have hE4d : Hid (ElB W1 n₀ false emp) := Lib.hid (by rw [← hW1]; exact hE4c.out.same (Below.heap_alloc _ _ _ hE4c.out.lt))
      have hE6d : Hid (ElB W1 (n₀ + 1) false emp) := Lib.hid (by rw [← hW1]; exact hE6c.out.same (Below.heap_alloc _ _ _ hE6c.out.lt))
      have hBd : Hid (Below n₀ w W1) := Lib.hid (by rw [← hW1]; exact hBc.out.alloc (by omega) _)
      have hW1H := Lib.hid hW1
      have hs1H := Lib.hid hs1
      have hs1' : W1.heap.size ≤ b9 + 1 := by omega
      have hs1'' : b9 + 1 ≤ W1.heap.size := by omega
      clear hW1 hs1 hb9
      gi_upto_region 7 with fail
      rw [hW1H.out, hb9H.out]
      gi_wp2_with (refine ⟨trivial, ?_⟩; gi_at_call 57; refine (callsIn_wide.2 (members_any _ _ _ a _)).mono ?_; rintro e w7 ⟨rfl, rfl⟩)
      rw [hs1H.out]
      obtain ⟨W2, hW2⟩ : ∃ W2, (W1.alloc (.cells #[.slice (some ⟨g, off, none⟩) n cv] 22)).alloc (.cells #[.int .i64 (a : Int)] 3) = W2 := ⟨_, rfl⟩
      have hBl : Boxed W2 (b9 + 1) 22 (.slice (some ⟨g, off, none⟩) n cv) := by
        rw [← hW2, ← hs1H.out]; exact Blk.alloc (World.alloc_heap_new W1 _) _
      have hBa : Boxed W2 (b9 + 1 + 1) 3 (.int .i64 (a : Int)) := by
        have h := World.alloc_heap_new (W1.alloc (.cells #[.slice (some ⟨g, off, none⟩) n cv] 22)) (.cells #[.int .i64 (a : Int)] 3)
        rw [World.size_alloc, hs1H.out] at h
        rw [← hW2]; exact h
      have hb12 : Below W1.heap.size W1 W2 := by rw [← hW2]; exact ((Below.refl _ _).alloc (Nat.le_refl _) _).alloc (by simp) _
      have hs2 : W2.heap.size = b9 + 3 := by rw [← hW2, World.size_alloc, World.size_alloc, hs1H.out]
      have hB2 : Below n₀ w W2 := hBd.out.trans (hb12.mono (by omega))
      have hL0 : LoopM n₀ (n₀ + 1) b9 a w [] W2 := ⟨⟨hE6d.out.same (hb12.block _ (by omega)), (hb12.block _ h9.out.lt).trans h9.out, hE4d.out.same (hb12.block _ (by omega)), by omega⟩, hB2⟩
      have hRd : RdM n₀ (b9 + 1 + 1) (b9 + 1) a (some ⟨g, off, none⟩) n cv p W2 := ⟨hBa, hBl, hPH.out.below hB2, by omega⟩
      rw [hW2]
      have hs2H := Lib.hid hs2
      have hs2' : b9 + 3 ≤ W2.heap.size := by omega
      clear hW2 hs2 hb12 hBl hBa hn₀
      apply wpIn_rangeFunc_ownH (ps := #[29, 30]) (n := 8) rfl (by omega) (gf := 61) (lb := #[.pointer (some ⟨b9 + 1 + 1, 0, none⟩), .pointer (some ⟨b9 + 1, 0, none⟩)]) rfl trivial (enters_of Try.func61 (by kernel_rfl) rfl)
        (members_stops 7 (by omega) (b9 + 1 + 1) (b9 + 1) n₀ (mems p a a).length a (some ⟨g, off, none⟩) n cv p hnH.out hn2 (by omega) (Nat.le_refl _) W2 hRd) keepM_t (keepM_b (w := W2) (by omega) (by omega) (by omega)) (Below.refl _ _) (fun x => rfl)
        (LoopM n₀ (n₀ + 1) b9 a w) (fun _ _ _ => False) (loopM_own hn₀w (by omega)) (fun _ _ _ _ _ h _ _ => h)
        hL0
        (fun x a' W => ∃ Bx, b9 + 3 ≤ Bx ∧ W.heap[Bx]? = some (.cells (memC x.1) 100 (0, 0)) ∧ a' = frB g off n cv i n₀ a b9 tb (fun j => if j = 17 then u17 else if j = 18 then u18 else if j = 19 then u19 else if j = 20 then u20 else if j = 21 then u21 else if j = 23 then u23 else if j = 24 then u24 else if j = 31 then u31 else if j = 32 then u32 else if j = 33 then u33 else if j = 34 then u34 else if j = 35 then u35 else if j = 36 then u36 else if j = 37 then u37 else if j = 38 then u38 else if j = 39 then u39 else if j = 40 then u40 else if j = 41 then u41 else if j = 42 then u42 else if j = 43 then u43 else if j = 44 then u44 else if j = 45 then u45 else if j = 46 then u46 else if j = 47 then u47 else if j = 48 then u48 else if j = 49 then u49 else if j = 50 then u50 else if j = 51 then u51 else if j = 52 then u52 else undef) Bx x)
        (fun x a' _ X Y row hs hg hr => by obtain ⟨Bx, h1, h2, h3⟩ := hs; exact ⟨Bx, h1, ((same_of hg (fun r e => (hr r e).2)) _ _ _ _ h2).trans h2, h3⟩)
        ?assign ?body ?done ?stop
      case stop => exact fun _ _ _ _ _ _ h => h.elim
      case assign =>
        clear hL0 hRd hB2
        rintro l pre x W K hI hK
        have hIH := Lib.hid hI
        have hsz := hI.1.2.2.2
        clear hI
        obtain ⟨mm, q⟩ := x
        dsimp only [encM]
        unfold memV memC
        gi_wp2
        exact hK _ _ ((KeepsOthers.alloc _ _).from _) ⟨(Below.refl _ _).alloc (by omega) _, Below.heap_alloc _ _ _ (by omega), Below.heap_alloc _ _ _ (by omega)⟩ ⟨⟨hIH.out.1.1.same (Below.heap_alloc _ _ _ hIH.out.1.1.lt), (Below.heap_alloc _ _ _ hIH.out.1.2.1.lt).trans hIH.out.1.2.1, hIH.out.1.2.2.1.same (Below.heap_alloc _ _ _ hIH.out.1.2.2.1.lt), by simp; omega⟩, hIH.out.2.alloc (by omega) _⟩ ⟨W.heap.size, by omega, World.alloc_heap_new W _, rfl⟩
      case body =>
        clear hL0 hRd hB2
        rintro l pre x a' W hl _ hI ⟨Bx, hBx, hbx, rfl⟩ hlt
        obtain ⟨mm, q⟩ := x
        have hsz := hI.1.2.2.2
        obtain ⟨S, hS⟩ : ∃ S, (brF pre (emp, a)).1 = S := ⟨_, rfl⟩
        obtain ⟨en, hen⟩ : ∃ en, (brF pre (emp, a)).2 = en := ⟨_, rfl⟩
        have hSH := Lib.hid (And.intro hS hen)
        have hIn0 : Hid (InB n₀ b9 (b9 + 1 + 1) (b9 + 1) w W S en W) := Lib.hid ⟨KeepsOthers.refl _, ⟨Below.refl _ _, rfl, rfl⟩, by rw [← hS]; exact hI.1.1, by rw [← hen]; exact hI.1.2.1, hI.1.2.2.1, hI.2⟩
        dsimp only at hbx
        obtain ⟨⟨t0, t1, t2, t3, t4, t5⟩, _⟩ := six_cells (show Blk W Bx 100 _ from hbx)
        clear hI hS hen hbx
        unfold frB memV memC
        dsimp only
        gi_wp2
        gi_loopw [32] (fun s32 wr => ∃ k : Nat, k ≤ 3 ∧ s32 = .int .i64 k ∧ Hid (InB n₀ b9 (b9 + 1 + 1) (b9 + 1) w W (fun c => S c || inMemK mm k c) en wr) ∧ b9 + 3 ≤ wr.heap.size) (fun s32 _ => 3 - (intOf s32).toNat)
        case atStart =>
          exact ⟨0, by omega, rfl, Lib.hid (by
            have e : (fun c => S c || inMemK mm 0 c) = S := by funext c; rw [inMemK_0, Bool.or_false]
            rw [e]; exact hIn0.out), hsz⟩
        case round =>
          obtain ⟨k, hk, rfl, hIn, hwr⟩ := hrel
          clear t0 t1 t2 t3 t4 t5
          rcases (show k = 0 ∨ k = 1 ∨ k = 2 ∨ k = 3 by omega) with rfl | rfl | rfl | rfl
          · have i0 : ∀ w, (Instr.index 100 (.agg #[.int .u8 (mm.1.a.toNat : Int), .int .u8 (mm.1.b.toNat : Int), .int .u8 (mm.2.1.a.toNat : Int), .int .u8 (mm.2.1.b.toNat : Int), .int .u8 (mm.2.2.a.toNat : Int), .int .u8 (mm.2.2.b.toNat : Int)]) (.int .i64 0)).run Try.prog w = .ok (.agg #[.int .u8 (mm.1.a.toNat : Int), .int .u8 (mm.1.b.toNat : Int)]) w := fun _ => by kernel_rfl
            have hA := Lib.hid (hIn.out.alloc (by omega) (by omega) (by omega) (.cells #[.int .u8 (mm.1.a.toNat : Int), .int .u8 (mm.1.b.toNat : Int)] 87))
            have hadd := Lib.hid (add_any (n₀ + 1) false _ mm.1 _ hA.out.e6)
            gi_wp2_with fail
            refine ⟨trivial, ?_⟩
            refine (CallsIn.inRound l (callsIn_wide.2 hadd.out)).mono ?_
            rintro e w3 ⟨rfl, hE3, hG3⟩
            have hI3 := Lib.hid (hA.out.grown hG3 hE3 (by omega) (by simp; omega) (by simp; omega) (by omega) (by omega) (by simp; omega))
            have hz3 : b9 + 3 ≤ w3.heap.size := by have := hG3.size; simp at this; omega
            clear hE3 hG3 i0
            gi_wp2
            go_roundw
            case rel => exact ⟨1, by omega, rfl, Lib.hid (by
              have e : (fun c => S c || inMemK mm 1 c) = (fun c => (S c || inMemK mm 0 c) || inSp mm.1 c) := by funext c; rw [inMemK_1, Bool.or_assoc]
              rw [e]; exact hI3.out), hz3⟩
            case measure => simp [intOf]
          · have i0 : ∀ w, (Instr.index 100 (.agg #[.int .u8 (mm.1.a.toNat : Int), .int .u8 (mm.1.b.toNat : Int), .int .u8 (mm.2.1.a.toNat : Int), .int .u8 (mm.2.1.b.toNat : Int), .int .u8 (mm.2.2.a.toNat : Int), .int .u8 (mm.2.2.b.toNat : Int)]) (.int .i64 1)).run Try.prog w = .ok (.agg #[.int .u8 (mm.2.1.a.toNat : Int), .int .u8 (mm.2.1.b.toNat : Int)]) w := fun _ => by kernel_rfl
            have hA := Lib.hid (hIn.out.alloc (by omega) (by omega) (by omega) (.cells #[.int .u8 (mm.2.1.a.toNat : Int), .int .u8 (mm.2.1.b.toNat : Int)] 87))
            have hadd := Lib.hid (add_any (n₀ + 1) false _ mm.2.1 _ hA.out.e6)
            gi_wp2_with fail
            refine ⟨trivial, ?_⟩
            refine (CallsIn.inRound l (callsIn_wide.2 hadd.out)).mono ?_
            rintro e w3 ⟨rfl, hE3, hG3⟩
            have hI3 := Lib.hid (hA.out.grown hG3 hE3 (by omega) (by simp; omega) (by simp; omega) (by omega) (by omega) (by simp; omega))
            have hz3 : b9 + 3 ≤ w3.heap.size := by have := hG3.size; simp at this; omega
            clear hE3 hG3 i0
            gi_wp2
            go_roundw
            case rel => exact ⟨2, by omega, rfl, Lib.hid (by
              have e : (fun c => S c || inMemK mm 2 c) = (fun c => (S c || inMemK mm 1 c) || inSp mm.2.1 c) := by funext c; rw [inMemK_2, Bool.or_assoc]
              rw [e]; exact hI3.out), hz3⟩
            case measure => simp [intOf]
          · have i0 : ∀ w, (Instr.index 100 (.agg #[.int .u8 (mm.1.a.toNat : Int), .int .u8 (mm.1.b.toNat : Int), .int .u8 (mm.2.1.a.toNat : Int), .int .u8 (mm.2.1.b.toNat : Int), .int .u8 (mm.2.2.a.toNat : Int), .int .u8 (mm.2.2.b.toNat : Int)]) (.int .i64 2)).run Try.prog w = .ok (.agg #[.int .u8 (mm.2.2.a.toNat : Int), .int .u8 (mm.2.2.b.toNat : Int)]) w := fun _ => by kernel_rfl
            have hA := Lib.hid (hIn.out.alloc (by omega) (by omega) (by omega) (.cells #[.int .u8 (mm.2.2.a.toNat : Int), .int .u8 (mm.2.2.b.toNat : Int)] 87))
            have hadd := Lib.hid (add_any (n₀ + 1) false _ mm.2.2 _ hA.out.e6)
            gi_wp2_with fail
            refine ⟨trivial, ?_⟩
            refine (CallsIn.inRound l (callsIn_wide.2 hadd.out)).mono ?_
            rintro e w3 ⟨rfl, hE3, hG3⟩
            have hI3 := Lib.hid (hA.out.grown hG3 hE3 (by omega) (by simp; omega) (by simp; omega) (by omega) (by omega) (by simp; omega))
            have hz3 : b9 + 3 ≤ w3.heap.size := by have := hG3.size; simp at this; omega
            clear hE3 hG3 i0
            gi_wp2
            go_roundw
            case rel => exact ⟨3, by omega, rfl, Lib.hid (by
              have e : (fun c => S c || inMemK mm 3 c) = (fun c => (S c || inMemK mm 2 c) || inSp mm.2.2 c) := by funext c; rw [inMemK_3, Bool.or_assoc]
              rw [e]; exact hI3.out), hz3⟩
            case measure => simp [intOf]
          · have c9 := hIn.out.e9.cell
            have f9 := hIn.out.e9.frozen
            gi_wp2
            have hne : ∀ (B : Nat), B ≠ b9 → (wr.setCell ⟨b9, 0, none⟩ (.int .i64 (q : Int))).heap[B]? = wr.heap[B]? := fun B h => Below.heap_setCell _ _ _ _ (by simpa using h)
            refine ⟨(hIn.out.oth.trans (KeepsOthers.setCell _ _ _)).from _, ⟨hIn.out.kee.1.setCell (p := ⟨b9, 0, none⟩) (by show n₀ ≤ b9; omega) _, (hne _ (by omega)).trans hIn.out.kee.2.1, (hne _ (by omega)).trans hIn.out.kee.2.2⟩, ⟨⟨?_, ?_, hIn.out.e4.same (hne _ (by omega)), by rw [World.size_setCell]; exact hwr⟩, hIn.out.be.setCell (p := ⟨b9, 0, none⟩) (by show n₀ ≤ b9; omega) _⟩⟩
            · rw [brF_snoc, hSH.out.1]
              have e : (fun c => S c || inMemK mm 3 c) = (fun c => S c || inMem mm c) := by funext c; rw [inMemK_all]
              have h6 := hIn.out.e6
              rw [e] at h6
              exact h6.same (hne _ (by omega))
            · rw [brF_snoc]
              exact hIn.out.e9.set _
      case done =>
        clear hL0 hRd hB2
        rintro D xs W hD rfl hL hK
        have hsz := hL.1.2.2.2
        have hbr := Lib.hid (brk_end p a (by rw [hnH.out]; exact han))
        obtain ⟨S, hS⟩ : ∃ S, (brk p a).1 = S := ⟨_, rfl⟩
        obtain ⟨E, hE⟩ : ∃ E, (brk p a).2 = E := ⟨_, rfl⟩
        rw [hE] at hbr
        have hbA : Hid (brAt p i = if E < n then some (fun c => S c != tb, E + 1) else none) := Lib.hid (by unfold brAt; rw [haH.out, htbH.out, hS, hE, hnH.out])
        have h6 : Hid (ElB W (n₀ + 1) false S) := Lib.hid (by rw [← hS]; exact hL.1.1)
        have h9 : Hid (Boxed W b9 3 (.int .i64 (E : Int))) := Lib.hid (by rw [← hE]; exact hL.1.2.1)
        have h4 : Hid (ElB W n₀ false emp) := Lib.hid hL.1.2.2.1
        have hB : Hid (Below n₀ w W) := Lib.hid hL.2
        have hKH := Lib.hid hK
        have hEn : E ≤ n := by have := hbr.out.1; rw [hnH.out] at this; exact this
        have c9 := h9.out.cell
        clear hL hK hS hE
        by_cases hEq : E = n
        · have hr : Hid (brR p i = (fun c => c == 91, i + 1)) := Lib.hid (by unfold brR; rw [hbA.out, if_neg (by omega)])
          have eE : ((E : Int) == (n : Int)) = true := by rw [hEq]; simp
          clear hEq
          have hadd := Lib.hid (add_any W.heap.size false emp ⟨91, 91⟩ (W.alloc (.cells (elV false fun _ => 0) 82)) ⟨_, Blk.new _ _ _, emp_rep⟩)
          unfold elV at hadd
          gi_wp2_with fail
          refine ⟨trivial, ?_⟩
          refine (callsIn_wide.2 hadd.out).mono ?_
          rintro e w7 ⟨rfl, ⟨x7, hb7, hR7⟩, hG7⟩
          have hWD : D < W.heap.size := (Array.getElem?_eq_some_iff.1 hKH.out).1
          have hD7 : Hid (w7.heap[D]? = some (.deferred (some []))) := Lib.hid ((hG7.block D (by simp; omega) (by simp; omega)).trans ((Below.heap_alloc _ _ _ hWD).trans hKH.out))
          obtain ⟨x4, hz4, _⟩ := h4.out.same ((hG7.block n₀ (by have := h4.out.lt; simp; omega) (by simp; omega)).trans (Below.heap_alloc _ _ _ h4.out.lt))
          have hB7 : Hid (Below n₀ w w7) := Lib.hid ((hB.out.alloc (by omega) _).trans ((Below.refl _ _).grown hG7 (by simp; omega) (fun j ej => by have := Option.some.inj ej; omega)))
          unfold elV at hz4 hb7
          obtain ⟨⟨z0, z1, z2, z3, z4⟩, r0, r1, r2, r3, r4⟩ := five_cells hz4
          obtain ⟨⟨t0, t1, t2, t3, t4⟩, _⟩ := five_cells hb7
          have hzH := Lib.hid hz4
          have hRH := Lib.hid hR7
          clear hz4 hb7 hR7 hG7 hadd eE c9
          gi_wp2
          obtain ⟨X, hX⟩ : ∃ X, set5 w7 n₀ (.bool false) (.int .u64 (x7 0 : Nat)) (.int .u64 (x7 1 : Nat)) (.int .u64 (x7 2 : Nat)) (.int .u64 (x7 3 : Nat)) = X := ⟨_, rfl⟩
          have hXb : Blk X n₀ 82 #[.bool false, .int .u64 (x7 0 : Nat), .int .u64 (x7 1 : Nat), .int .u64 (x7 2 : Nat), .int .u64 (x7 3 : Nat)] := by rw [← hX]; exact set5_blk hzH.out
          have hXD : X.heap[D]? = some (.deferred (some [])) := by rw [← hX, set5_other (by omega)]; exact hD7.out
          have hXB : Below n₀ w X := by rw [← hX]; exact set5_below hB7.out (Nat.le_refl _) _ _ _ _ _
          have hXY : Below n₀ w (X.putObj D (.deferred none)) := hXB.trans (belowK_b (w := w) hn₀w X D _ (.deferred none) (by have := hn₀H.out; omega) hXD rfl rfl)
          have hYb : Blk (X.putObj D (.deferred none)) n₀ 82 #[.bool false, .int .u64 (x7 0 : Nat), .int .u64 (x7 1 : Nat), .int .u64 (x7 2 : Nat), .int .u64 (x7 3 : Nat)] := (World.putObj_heap_other (by omega)).trans hXb
          unfold set5 at hX
          rw [hX]
          obtain ⟨⟨q0, q1, q2, q3, q4⟩, _⟩ := five_cells hYb
          have hXYH := Lib.hid hXY
          have hXDH := Lib.hid hXD
          clear hX hXb hXB hXY hYb hXD
          refine ⟨by simp, .inl ⟨_, _, rfl, run_takeDeferred hXDH.out, ?_⟩⟩
          refine ⟨.tuple #[.agg #[.bool false, .int .u64 (x7 0 : Nat), .int .u64 (x7 1 : Nat), .int .u64 (x7 2 : Nat), .int .u64 (x7 3 : Nat)], .int .i64 ((i : Int) + 1)], ?_, ?_⟩
          · simp [results, Try.results50, go_sem, q0, q1, q2, q3, q4]
          · rw [hr.out]
            exact ⟨by rw [hn₀H.out]; exact hXYH.out, x7, by have e : (fun c : UInt8 => c == 91) = (fun c => emp c || inSp ⟨91, 91⟩ c) := (by funext c; exact span_one 91 c); rw [e]; exact hRH.out, rfl⟩
        · have hr : Hid (brR p i = (fun c => S c != tb, E + 1)) := Lib.hid (by unfold brR; rw [hbA.out, if_pos (by omega)])
          have eE : ((E : Int) == (n : Int)) = false := beq_eq_false_iff_ne.2 (by omega)
          clear hEq
          gi_upto_if 48 with fail
          gi_cut [] from 49 (fun wx => ElB wx (n₀ + 1) false (fun c => S c != tb) ∧ W.grownBy wx (some (n₀ + 1)))
          case first =>
            cases tb
            · have e : (fun c => S c != false) = S := by funext c; simp
              gi_wp2
              gi_meet
              exact ⟨by rw [e]; exact h6.out, World.grownBy.refl _ _⟩
            · have e : (fun c => S c != true) = (fun c => !S c) := by funext c; simp
              gi_wp2_with (refine ⟨trivial, ?_⟩; gi_at_call 58; refine (callsIn_wide.2 (turn_any (n₀ + 1) false S W h6.out)).mono ?_; rintro e w7 ⟨rfl, hE7, hG7⟩)
              gi_meet
              exact ⟨by rw [e]; exact hE7, hG7⟩
          case rest =>
            obtain ⟨⟨x6, hb6, hR6⟩, hG⟩ := hcut
            have hWD : D < W.heap.size := (Array.getElem?_eq_some_iff.1 hKH.out).1
            have hDc : Hid (wc.heap[D]? = some (.deferred (some []))) := Lib.hid ((hG.block D hWD (by simp; omega)).trans hKH.out)
            obtain ⟨x4, hz4, _⟩ := h4.out.same (hG.block n₀ h4.out.lt (by simp))
            have h9c : Boxed wc b9 3 (.int .i64 (E : Int)) := (hG.block b9 h9.out.lt (by simp; omega)).trans h9.out
            have hBc2 : Hid (Below n₀ w wc) := Lib.hid (hB.out.trans ((Below.refl _ _).grown hG (by omega) (fun j ej => by have := Option.some.inj ej; omega)))
            have c9' := h9c.cell
            unfold elV at hz4 hb6
            obtain ⟨⟨z0, z1, z2, z3, z4⟩, r0, r1, r2, r3, r4⟩ := five_cells hz4
            obtain ⟨⟨t0, t1, t2, t3, t4⟩, _⟩ := five_cells hb6
            have hzH := Lib.hid hz4
            have hRH := Lib.hid hR6
            have hE1 : (E : Int) ≤ 1000000 := by omega
            clear hz4 hb6 hR6 hG h9c eE c9
            gi_upto_region 22 with fail
            gi_region
            obtain ⟨X, hX⟩ : ∃ X, (set5 wc n₀ (.bool false) (.int .u64 (x6 0 : Nat)) (.int .u64 (x6 1 : Nat)) (.int .u64 (x6 2 : Nat)) (.int .u64 (x6 3 : Nat))).drew = X := ⟨_, rfl⟩
            have hXb : Blk X n₀ 82 #[.bool false, .int .u64 (x6 0 : Nat), .int .u64 (x6 1 : Nat), .int .u64 (x6 2 : Nat), .int .u64 (x6 3 : Nat)] := by rw [← hX]; exact set5_blk hzH.out
            have hXD : X.heap[D]? = some (.deferred (some [])) := by rw [← hX]; exact (set5_other (by omega) _ _ _ _ _).trans hDc.out
            have hXB : Below n₀ w X := by rw [← hX]; exact (set5_below hBc2.out (Nat.le_refl _) _ _ _ _ _).drew
            have hXY : Below n₀ w (X.putObj D (.deferred none)) := hXB.trans (belowK_b (w := w) hn₀w X D _ (.deferred none) (by have := hn₀H.out; omega) hXD rfl rfl)
            have hYb : Blk (X.putObj D (.deferred none)) n₀ 82 #[.bool false, .int .u64 (x6 0 : Nat), .int .u64 (x6 1 : Nat), .int .u64 (x6 2 : Nat), .int .u64 (x6 3 : Nat)] := (World.putObj_heap_other (by omega)).trans hXb
            unfold set5 at hX
            rw [hX]
            obtain ⟨⟨q0, q1, q2, q3, q4⟩, _⟩ := five_cells hYb
            have hXYH := Lib.hid hXY
            have hXDH := Lib.hid hXD
            clear hX hXb hXB hXY hYb hXD z0 z1 z2 z3 z4 t0 t1 t2 t3 t4 r0 r1 r2 r3 r4 c9'
            gi_wp2
            refine ⟨by simp, .inl ⟨_, _, rfl, run_takeDeferred hXDH.out, ?_⟩⟩
            refine ⟨.tuple #[.agg #[.bool false, .int .u64 (x6 0 : Nat), .int .u64 (x6 1 : Nat), .int .u64 (x6 2 : Nat), .int .u64 (x6 3 : Nat)], .int .i64 ((E : Int) + 1)], ?_, ?_⟩
            · simp [results, Try.results50, go_sem, q0, q1, q2, q3, q4]
            · rw [hr.out]
              exact ⟨by rw [hn₀H.out]; exact hXYH.out, x6, hRH.out, rfl⟩
theorem bracket_any (av : Option Addr) (n cv : Nat) (p : List Ch) (i : Nat) (w : World) (hn : p.length = n) (hP : ChsAt w.heap.size w av p) (hn2 : n ≤ 1000000) (hi : i + 1 < n) :
    Calls Try.prog 50 #[.slice av n cv, .int .i64 (i : Int)] w (BracketR (brR p i) w) := callsIn_wide.1 (bracket_in av n cv p i w hn hP hn2 hi)
end Go.Proofs.Ytlaidmjlgjpgcaa
