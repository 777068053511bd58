/- Each call of a table, the program's and the reference's side by side; what the law TableRuns holds between its calls. No condition. -/
import Derived.Test.YtifoanmoadogoaaTabQ
namespace Go.Proofs.Ytifoanmoadogoaa
open Go.RowKit

/-- A call of the program's table that leaves f' and answers v. -/
def PC (fn : FuncId) (args : List Value) (f f' : Nat → Sl) (v : Value) : Prop := ∀ (w : World) (T : Nat), TabAt w T f → Calls Try.prog fn (.pointer (some ⟨T, 0, none⟩) :: args).toArray w fun e w' => e = .returned v ∧ TabAt w' T f' ∧ Frame T T w w'
/-- A call of the reference's. -/
def RC (fn : FuncId) (args : List Value) (f f' : Nat → Sl) (v : Value) : Prop := ∀ (w : World) (R : Nat), RTb w R f → Calls Try.prog fn (.pointer (some ⟨R, 0, none⟩) :: args).toArray w fun e w' => e = .returned v ∧ RTb w' R f' ∧ Frame R R w w'

theorem pc_same {fn : FuncId} {args : List Value} {f : Nat → Sl} {v : Value} (h : ∀ (w : World) (T : Nat), TabAt w T f → Calls Try.prog fn (.pointer (some ⟨T, 0, none⟩) :: args).toArray w fun e w' => e = .returned v ∧ w' = w) : PC fn args f f v :=
  fun w T hT => (h w T hT).mono fun _ _ ⟨he, hw⟩ => ⟨he, by rw [hw]; exact hT, by rw [hw]; exact Frame.refl _ _ _⟩
theorem rc_same {fn : FuncId} {args : List Value} {f : Nat → Sl} {v : Value} (h : ∀ (w : World) (R : Nat), RTb w R f → Calls Try.prog fn (.pointer (some ⟨R, 0, none⟩) :: args).toArray w fun e w' => e = .returned v ∧ w' = w) : RC fn args f f v :=
  fun w R hR => (h w R hR).mono fun _ _ ⟨he, hw⟩ => ⟨he, by rw [hw]; exact hR, by rw [hw]; exact Frame.refl _ _ _⟩

theorem free_from (f : Nat → Sl) (a : Nat) : ∀ n, (∃ j, a ≤ j ∧ j < n ∧ (f j).tk = false ∧ ∀ k, a ≤ k → k < j → (f k).tk = true) ∨ ∀ k, a ≤ k → k < n → (f k).tk = true := by
  intro n
  induction n with
  | zero => exact .inr (fun k _ hk => absurd hk (by omega))
  | succ n ih =>
    rcases ih with ⟨j, h0, h1, h2, h3⟩ | h
    · exact .inl ⟨j, h0, by omega, h2, h3⟩
    · by_cases ha : a ≤ n
      · cases hn : (f n).tk
        · exact .inl ⟨n, ha, by omega, hn, h⟩
        · refine .inr (fun k hk0 hk => ?_)
          by_cases e : k = n
          · subst e; exact hn
          · exact h k hk0 (by omega)
      · exact .inr (fun k hk0 hk => absurd hk (by omega))

theorem put_both (f : Nat → Sl) (x least : Int) : ∃ (a e : Int) (f' : Nat → Sl), PC 26 [.int .i64 x, .int .i64 least] f f' (.tuple #[.int .i64 a, .int .i64 e]) ∧ RC 27 [.int .i64 x, .int .i64 least] f f' (.tuple #[.int .i64 a, .int .i64 e]) := by
  by_cases h : 0 ≤ least ∧ least < 32
  · obtain ⟨a, rfl⟩ := Int.eq_ofNat_of_zero_le h.1
    rcases free_from f a 32 with ⟨j, h0, h1, h2, h3⟩ | h3
    · exact ⟨_, _, _, fun w T hT => put_in x a j h0 h1 w hT h3 h2, fun w R hR => rput_in x a j h0 h1 w hR h3 h2⟩
    · exact ⟨_, _, f, pc_same fun w T hT => put_full x a (by omega) w hT h3, rc_same fun w R hR => rput_full x a (by omega) w hR h3⟩
  · exact ⟨_, _, f, pc_same fun w T _ => put_bad x least h w, rc_same fun w R _ => rput_bad x least h w⟩
theorem set_both (f : Nat → Sl) (fd x : Int) : ∃ (a : Int) (b : Bool) (e : Int) (f' : Nat → Sl), PC 28 [.int .i64 fd, .int .i64 x] f f' (.tuple #[.int .i64 a, .bool b, .int .i64 e]) ∧ RC 29 [.int .i64 fd, .int .i64 x] f f' (.tuple #[.int .i64 a, .bool b, .int .i64 e]) := by
  by_cases h : 0 ≤ fd ∧ fd < 32
  · obtain ⟨i, rfl⟩ := Int.eq_ofNat_of_zero_le h.1
    exact ⟨_, _, _, _, fun w T hT => set_in x i (by omega) w hT, fun w R hR => rset_in x i (by omega) w hR⟩
  · exact ⟨_, _, _, f, pc_same fun w T _ => set_out fd x h w, rc_same fun w R _ => rset_out fd x h w⟩
theorem get_both (f : Nat → Sl) (fd : Int) : ∃ (a e : Int), PC 30 [.int .i64 fd] f f (.tuple #[.int .i64 a, .int .i64 e]) ∧ RC 31 [.int .i64 fd] f f (.tuple #[.int .i64 a, .int .i64 e]) := by
  by_cases h : 0 ≤ fd ∧ fd < 32
  · obtain ⟨i, rfl⟩ := Int.eq_ofNat_of_zero_le h.1
    exact ⟨_, _, pc_same fun w T hT => get_in i (by omega) w hT, rc_same fun w R hR => rget_in i (by omega) w hR⟩
  · exact ⟨_, _, pc_same fun w T _ => get_out fd h w, rc_same fun w R _ => rget_out fd h w⟩
theorem cut_both (f : Nat → Sl) (fd : Int) : ∃ (a e : Int) (f' : Nat → Sl), PC 32 [.int .i64 fd] f f' (.tuple #[.int .i64 a, .int .i64 e]) ∧ RC 33 [.int .i64 fd] f f' (.tuple #[.int .i64 a, .int .i64 e]) := by
  by_cases h : 0 ≤ fd ∧ fd < 32
  · obtain ⟨i, rfl⟩ := Int.eq_ofNat_of_zero_le h.1
    cases ht : (f i).tk
    · exact ⟨_, _, f, pc_same fun w T hT => cut_none _ w (by
        have hg := get_in i (by omega) w hT
        unfold Sl.val Sl.err at hg
        rw [ht] at hg
        exact hg), rc_same fun w R hR => rcut_none i (by omega) w hR ht⟩
    · exact ⟨_, _, _, fun w T hT => cut_in i (by omega) w hT ht, fun w R hR => rcut_in i (by omega) w hR ht⟩
  · exact ⟨_, _, f, pc_same fun w T _ => cut_none _ w (get_out fd h w), rc_same fun w R _ => rcut_out fd h w⟩
theorem mark_both (f : Nat → Sl) (fd : Int) (b : Bool) : ∃ (e : Int) (f' : Nat → Sl), PC 34 [.int .i64 fd, .bool b] f f' (.int .i64 e) ∧ RC 35 [.int .i64 fd, .bool b] f f' (.int .i64 e) := by
  by_cases h : 0 ≤ fd ∧ fd < 32
  · obtain ⟨i, rfl⟩ := Int.eq_ofNat_of_zero_le h.1
    cases ht : (f i).tk
    · exact ⟨_, f, pc_same fun w T hT => mark_none b i (by omega) w hT ht, rc_same fun w R hR => rmark_none b i (by omega) w hR ht⟩
    · exact ⟨_, _, fun w T hT => mark_in b i (by omega) w hT ht, fun w R hR => rmark_in b i (by omega) w hR ht⟩
  · exact ⟨_, f, pc_same fun w T _ => mark_out fd b h w, rc_same fun w R _ => rmark_out fd b h w⟩

/-! What lies apart, told by what it holds. -/
theorem tr_ne {w : World} {T R : Nat} {f g : Nat → Sl} (h : TabAt w T f) (k : RTb w R g) : T ≠ R := fun e => by
  subst e
  have a := h.c0 0 (by omega)
  have b := k.c0 0 (by omega)
  rw [a] at b
  simp at b
theorem mt_ne {w : World} {T m : Nat} {f : Nat → Sl} {a b c d : Value} (h : TabAt w T f) (k : Blk w m 65 #[a, b, c, d]) (ha : ∀ x, a ≠ .bool x) : m ≠ T := fun e => by
  subst e
  have x := h.c0 0 (by omega)
  have y := k.cell 0
  rw [x] at y
  exact ha _ (by simpa using y.symm)
theorem mr_ne {w : World} {R m : Nat} {f : Nat → Sl} {a b c d : Value} (h : RTb w R f) (k : Blk w m 65 #[a, b, c, d]) (hb : ∀ x, b ≠ .bool x) : m ≠ R := fun e => by
  subst e
  have x := h.c1 0 (by omega)
  have y := k.cell 1
  rw [x] at y
  exact hb _ (by simpa using y.symm)
/-- A row of pointers that has one. -/
theorem row_ptr {w : World} {b n : Nat} {e : TypeId} {v : Value} {xs : List Nat} (h : w.ownsRow b e 1 v n (xs.map fun x => .pointer (some ⟨x, 0, none⟩))) (hx : xs ≠ []) {g : Nat} (hg : v.ownBlock = some g) : ∃ p, w.cell? ⟨g, 0, none⟩ = some (.pointer p) := by
  rcases h.2 with ⟨rfl, _⟩ | ⟨g', cap, cur, rfl, _, hb, _, _, _, htk⟩
  · cases hg
  · obtain rfl : g' = g := by simpa [Value.ownBlock] using hg
    cases xs with
    | nil => exact absurd rfl hx
    | cons x xs =>
      refine ⟨some ⟨x, 0, none⟩, ?_⟩
      have : (cur.toList.take (n * 1))[0]? = some (Value.pointer (some ⟨x, 0, none⟩)) := by rw [htk]; rfl
      rw [List.getElem?_take] at this
      split at this
      · rw [Array.getElem?_toList] at this
        exact (Blk.cell (show Blk w g' e cur from hb) 0).trans this
      · cases this
theorem pt_ne {w : World} {T g : Nat} {f : Nat → Sl} (h : TabAt w T f) (k : ∃ p, w.cell? ⟨g, 0, none⟩ = some (.pointer p)) : g ≠ T := fun e => by
  subst e
  obtain ⟨p, k⟩ := k
  have x := h.c0 0 (by omega)
  rw [k] at x
  simp at x
theorem pr_ne {w : World} {R g : Nat} {f : Nat → Sl} (h : RTb w R f) (k : ∃ p, w.cell? ⟨g, 0, none⟩ = some (.pointer p)) : g ≠ R := fun e => by
  subst e
  obtain ⟨p, k⟩ := k
  have x := h.c0 0 (by omega)
  rw [k] at x
  simp at x

/-- The pairs laid aside, and the two rows of pointers. -/
structure Olt (n₀ : Nat) (w : World) (T R : Nat) (ov rv : Value) (X : List (Nat × Nat)) : Prop where
  o : w.ownsRow n₀ 54 1 ov X.length ((X.map (·.1)).map fun x => .pointer (some ⟨x, 0, none⟩))
  r : w.ownsRow n₀ 56 1 rv X.length ((X.map (·.2)).map fun x => .pointer (some ⟨x, 0, none⟩))
  on : ∀ g, ov.ownBlock = some g → X ≠ []
  rn : ∀ g, rv.ownBlock = some g → X ≠ []
  all : ∀ x ∈ X, (∃ f, TabAt w x.1 f ∧ RTb w x.2 f) ∧ x.1 ≠ T ∧ x.2 ≠ R
  len : X.length ≤ 5
theorem ne_map {X : List (Nat × Nat)} (h : X ≠ []) {p : Nat × Nat → Nat} : X.map p ≠ [] := fun e => h (List.map_eq_nil_iff.1 e)
theorem Olt.frameT {n₀ : Nat} {w w' : World} {T R : Nat} {ov rv : Value} {X : List (Nat × Nat)} {f : Nat → Sl} (h : Olt n₀ w T R ov rv X) (hT : TabAt w T f) (hF : Frame T T w w') : Olt n₀ w' T R ov rv X :=
  ⟨row_keep h.o (fun g hg => hF.block g (row_lt h.o hg) (pt_ne hT (row_ptr h.o (ne_map (h.on g hg)) hg)) (pt_ne hT (row_ptr h.o (ne_map (h.on g hg)) hg))),
    row_keep h.r (fun g hg => hF.block g (row_lt h.r hg) (pt_ne hT (row_ptr h.r (ne_map (h.rn g hg)) hg)) (pt_ne hT (row_ptr h.r (ne_map (h.rn g hg)) hg))), h.on, h.rn,
    fun x hx => by
      obtain ⟨⟨f', h1, h2⟩, h3, h4⟩ := h.all x hx
      exact ⟨⟨f', h1.keep (hF.block _ h1.lt h3 h3), h2.keep (hF.block _ h2.lt (tr_ne hT h2).symm (tr_ne hT h2).symm)⟩, h3, h4⟩, h.len⟩
theorem Olt.frameR {n₀ : Nat} {w w' : World} {T R : Nat} {ov rv : Value} {X : List (Nat × Nat)} {f : Nat → Sl} (h : Olt n₀ w T R ov rv X) (hR : RTb w R f) (hF : Frame R R w w') : Olt n₀ w' T R ov rv X :=
  ⟨row_keep h.o (fun g hg => hF.block g (row_lt h.o hg) (pr_ne hR (row_ptr h.o (ne_map (h.on g hg)) hg)) (pr_ne hR (row_ptr h.o (ne_map (h.on g hg)) hg))),
    row_keep h.r (fun g hg => hF.block g (row_lt h.r hg) (pr_ne hR (row_ptr h.r (ne_map (h.rn g hg)) hg)) (pr_ne hR (row_ptr h.r (ne_map (h.rn g hg)) hg))), h.on, h.rn,
    fun x hx => by
      obtain ⟨⟨f', h1, h2⟩, h3, h4⟩ := h.all x hx
      exact ⟨⟨f', h1.keep (hF.block _ h1.lt (tr_ne h1 hR) (tr_ne h1 hR)), h2.keep (hF.block _ h2.lt h4 h4)⟩, h3, h4⟩, h.len⟩
theorem Olt.below {n₀ : Nat} {w w' : World} {T R : Nat} {ov rv : Value} {X : List (Nat × Nat)} (h : Olt n₀ w T R ov rv X) (hb : Below w.heap.size w w') : Olt n₀ w' T R ov rv X :=
  ⟨row_beneath h.o hb, row_beneath h.r hb, h.on, h.rn, fun x hx => by
    obtain ⟨⟨f', h1, h2⟩, h3⟩ := h.all x hx
    exact ⟨⟨f', h1.keep (hb.block _ h1.lt), h2.keep (hb.block _ h2.lt)⟩, h3⟩, h.len⟩

/-- Between two calls; and within one, with its block. -/
structure InvT (n₀ : Nat) (w0 w : World) (T R : Nat) (f g : Nat → Sl) (ov rv : Value) (X : List (Nat × Nat)) : Prop where
  t : TabAt w T f
  r : RTb w R g
  o : Olt n₀ w T R ov rv X
  b : Below n₀ w0 w
  nt : n₀ ≤ T
  nr : n₀ ≤ R
structure InvU (n₀ : Nat) (w0 w : World) (T R : Nat) (f g : Nat → Sl) (ov rv : Value) (X : List (Nat × Nat)) (m : Nat) (c x d : Int) (b : Bool) : Prop where
  i : InvT n₀ w0 w T R f g ov rv X
  k : Blk w m 65 #[.int .i64 c, .int .i64 x, .int .i64 d, .bool b]

section
variable {n₀ T R m : Nat} {w0 w w' : World} {f g f' g' : Nat → Sl} {ov rv : Value} {X : List (Nat × Nat)} {c x d : Int} {b : Bool}
theorem InvT.size (h : InvT n₀ w0 w T R f g ov rv X) : n₀ ≤ w.heap.size := by have := h.t.lt; have := h.nt; omega
theorem InvT.below (h : InvT n₀ w0 w T R f g ov rv X) (hb : Below w.heap.size w w') : InvT n₀ w0 w' T R f g ov rv X :=
  ⟨h.t.keep (hb.block _ h.t.lt), h.r.keep (hb.block _ h.r.lt), h.o.below hb, h.b.trans (hb.mono h.size), h.nt, h.nr⟩
theorem InvU.below (h : InvU n₀ w0 w T R f g ov rv X m c x d b) (hb : Below w.heap.size w w') : InvU n₀ w0 w' T R f g ov rv X m c x d b := ⟨h.i.below hb, blk_beneath h.k hb⟩
theorem InvU.frameT (h : InvU n₀ w0 w T R f g ov rv X m c x d b) (ht : TabAt w' T f') (hF : Frame T T w w') : InvU n₀ w0 w' T R f' g ov rv X m c x d b :=
  ⟨⟨ht, h.i.r.keep (hF.block _ h.i.r.lt (tr_ne h.i.t h.i.r).symm (tr_ne h.i.t h.i.r).symm), h.i.o.frameT h.i.t hF, h.i.b.trans (hF.below h.i.size h.i.nt h.i.nt), h.i.nt, h.i.nr⟩,
    (hF.block _ h.k.lt (mt_ne h.i.t h.k (fun _ e => by cases e)) (mt_ne h.i.t h.k (fun _ e => by cases e))).trans h.k⟩
theorem InvU.frameR (h : InvU n₀ w0 w T R f g ov rv X m c x d b) (hr : RTb w' R g') (hF : Frame R R w w') : InvU n₀ w0 w' T R f g' ov rv X m c x d b :=
  ⟨⟨h.i.t.keep (hF.block _ h.i.t.lt (tr_ne h.i.t h.i.r) (tr_ne h.i.t h.i.r)), hr, h.i.o.frameR h.i.r hF, h.i.b.trans (hF.below h.i.size h.i.nr h.i.nr), h.i.nt, h.i.nr⟩,
    (hF.block _ h.k.lt (mr_ne h.i.r h.k (fun _ e => by cases e)) (mr_ne h.i.r h.k (fun _ e => by cases e))).trans h.k⟩
theorem InvU.prog {fn : FuncId} {args : List Value} {v : Value} (h : InvU n₀ w0 w T R f g ov rv X m c x d b) (hc : PC fn args f f' v) : Calls Try.prog fn (.pointer (some ⟨T, 0, none⟩) :: args).toArray w fun e w' => e = .returned v ∧ InvU n₀ w0 w' T R f' g ov rv X m c x d b :=
  (hc w T h.i.t).mono fun _ _ ⟨he, h1, h2⟩ => ⟨he, h.frameT h1 h2⟩
theorem InvU.ref {fn : FuncId} {args : List Value} {v : Value} (h : InvU n₀ w0 w T R f g ov rv X m c x d b) (hc : RC fn args g g' v) : Calls Try.prog fn (.pointer (some ⟨R, 0, none⟩) :: args).toArray w fun e w' => e = .returned v ∧ InvU n₀ w0 w' T R f g' ov rv X m c x d b :=
  (hc w R h.i.r).mono fun _ _ ⟨he, h1, h2⟩ => ⟨he, h.frameR h1 h2⟩
theorem InvU.same (h : InvU n₀ w0 w T R f f ov rv X m c x d b) : Calls Try.prog 39 #[.pointer (some ⟨T, 0, none⟩), .pointer (some ⟨R, 0, none⟩)] w fun e w' => e = .returned (.bool true) ∧ InvU n₀ w0 w' T R f f ov rv X m c x d b :=
  (same_any w h.i.t h.i.r).mono fun _ _ ⟨he, h1⟩ => ⟨he, h.below h1⟩
theorem InvT.call (h : InvT n₀ w0 w T R f g ov rv X) (c x d : Int) (b : Bool) : InvU n₀ w0 (w.alloc (.cells #[.int .i64 c, .int .i64 x, .int .i64 d, .bool b] 65)) T R f g ov rv X w.heap.size c x d b :=
  ⟨h.below ((Below.refl _ _).alloc (Nat.le_refl _) _), Blk.new w 65 _⟩
theorem InvU.drew (h : InvU n₀ w0 w T R f g ov rv X m c x d b) : InvU n₀ w0 w.drew T R f g ov rv X m c x d b := h.below ((Below.refl w.heap.size w).drew)
theorem InvU.cells (h : InvU n₀ w0 w T R f g ov rv X m c x d b) : w.cell? ⟨m, 0, none⟩ = some (.int .i64 c) ∧ w.cell? ⟨m, 1, none⟩ = some (.int .i64 x) ∧ w.cell? ⟨m, 2, none⟩ = some (.int .i64 d) ∧ w.cell? ⟨m, 3, none⟩ = some (.bool b) :=
  ⟨h.k.cell 0, h.k.cell 1, h.k.cell 2, h.k.cell 3⟩
end
end Go.Proofs.Ytifoanmoadogoaa
