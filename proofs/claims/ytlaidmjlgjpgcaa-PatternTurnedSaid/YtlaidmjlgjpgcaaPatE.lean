/- memberAt. Condition: lengths. -/
import Derived.Test.YtlaidmjlgjpgcaaPatD
namespace Go.Proofs.Ytlaidmjlgjpgcaa
open Go.RowKit
attribute [local go_sem] Oper.semAt_some

theorem info100 : (Try.prog.info? 100).map (·.size) = some 6 := by kernel_rfl
theorem Blk.row {W : World} {g : Nat} {t : TypeId} {cs : Array Value} (h : Blk W g t cs) (cs' : Array Value) : Blk (W.setRow g cs') g t cs' := setRow_heap W g cs cs' t (0, 0) h
/-- What memberAt gives. -/
def MemberR (r : Mem × Nat) (w : World) (e : Ending) (w' : World) : Prop :=
  Below w.heap.size w w' ∧ e = .returned (.tuple #[memV r.1, .int .i64 (r.2 : Int)])
def rangeB (p : List Ch) (i : Nat) : Bool := decide (isAt p (i + 1) 45 = true ∧ i + 2 < p.length ∧ isAt p (i + 2) 93 = false)
theorem memP_some {p : List Ch} {i : Nat} {x : List UInt8 × Mem} (h : clsAt p i = some x) : memP p i = (x.2, i + 9) := by unfold memP; rw [h]
theorem memP_range {p : List Ch} {i : Nat} (h : clsAt p i = none) (hr : rangeB p i = true) : memP p i = (oneM ⟨(chAt p i).1, (chAt p (i + 2)).1⟩, i + 3) := by
  unfold memP; rw [h]; exact if_pos (of_decide_eq_true hr)
theorem memP_lone {p : List Ch} {i : Nat} (h : clsAt p i = none) (hr : rangeB p i = false) : memP p i = (oneM ⟨(chAt p i).1, (chAt p i).1⟩, i + 1) := by
  unfold memP; rw [h]; exact if_neg (of_decide_eq_false hr)

theorem set6_far {W : World} {g h o : Nat} (hn : ¬ g = h) (a b c d e f : Value) : ((((((W.setCell ⟨g, 0, none⟩ a).setCell ⟨g, 1, none⟩ b).setCell ⟨g, 2, none⟩ c).setCell ⟨g, 3, none⟩ d).setCell ⟨g, 4, none⟩ e).setCell ⟨g, 5, none⟩ f).cell? ⟨h, o, none⟩ = W.cell? ⟨h, o, none⟩ := by
  have k : ∀ (X : World) (i : Nat) (u : Value), (X.setCell ⟨g, i, none⟩ u).cell? ⟨h, o, none⟩ = X.cell? ⟨h, o, none⟩ := fun X i u => World.cell?_setCell_other X ⟨g, i, none⟩ ⟨h, o, none⟩ u (fun e => hn (by injection e))
  rw [k, k, k, k, k, k]

set_option maxHeartbeats 2000000 in
set_option maxRecDepth 100000 in
theorem memberAt_any (av : Option Addr) (n cv : Nat) (p : List Ch) (i : Nat) (w : World) (hn : p.length = n) (hP : ChsAt w.heap.size w av p) (hn2 : n ≤ 1000000) (hi : i < n) :
    Calls Try.prog 62 #[.slice av n cv, .int .i64 i] w (MemberR (memP p i) w) := by
  have hnH := Lib.hid hn
  have hPH := Lib.hid hP
  obtain ⟨n₀, hn₀⟩ : ∃ n₀, w.heap.size = n₀ := ⟨_, rfl⟩
  rw [hn₀] at hPH
  have hn₀H := Lib.hid hn₀
  have hn₀w : n₀ ≤ w.heap.size := by omega
  obtain ⟨W0, hW0⟩ : ∃ W0, w.alloc (.cells z6 100) = W0 := ⟨_, rfl⟩
  have hB0 : Hid (Below n₀ w W0) := Lib.hid (by rw [← hW0, ← hn₀]; exact (Below.refl _ _).alloc (Nat.le_refl _) _)
  have hR0 : Hid (Blk W0 n₀ 100 #[.int .u8 0, .int .u8 0, .int .u8 0, .int .u8 0, .int .u8 0, .int .u8 0]) := Lib.hid (by rw [← hW0, ← hn₀]; exact Blk.new _ _ _)
  have hs1 : n₀ + 1 ≤ W0.heap.size := hR0.out.lt
  have hW : Hid (w.alloc (.cells #[.int .u8 0, .int .u8 0, .int .u8 0, .int .u8 0, .int .u8 0, .int .u8 0] 100) = W0) := Lib.hid hW0
  have hP0 : Hid (ChsAt n₀ W0 av p) := Lib.hid (hPH.out.below hB0.out)
  have hcl := Lib.hid (class_any av n cv p i W0 hn (hP0.out.mono (by omega)) hn2 hi)
  clear hn hP hW0
  go_enter Try.func62, Try.ntmps62
  go_upto_region 1 with fail
  rw [hW.out]
  clear hn₀
  go_wp2_with fail
  refine hcl.out.mono ?_
  rintro e w5 ⟨hb5, ⟨x, hx, rfl⟩ | ⟨hx, rfl⟩⟩
  · have hmem := Lib.hid (memP_some hx)
    have hz5 := hb5.size
    unfold memV memC
    have hT : Blk (w5.alloc (.cells (memC x.2) 100)) w5.heap.size 100 (memC x.2) := Blk.new _ _ _
    have hZ : Blk (w5.alloc (.cells (memC x.2) 100)) n₀ 100 #[.int .u8 0, .int .u8 0, .int .u8 0, .int .u8 0, .int .u8 0, .int .u8 0] := Blk.alloc ((hb5.block n₀ (by omega)).trans hR0.out) _
    have hB : Below n₀ w (w5.alloc (.cells (memC x.2) 100)) := (hB0.out.trans (hb5.mono (by omega))).alloc (by omega) _
    obtain ⟨w6, hw6⟩ : ∃ w6, w5.alloc (.cells (memC x.2) 100) = w6 := ⟨_, rfl⟩
    rw [hw6] at hT hZ hB
    have hw6H := Lib.hid hw6
    unfold memC at hT hw6H
    obtain ⟨⟨z0, z1, z2, z3, z4, z5⟩, r0, r1, r2, r3, r4, r5⟩ := six_cells hZ
    obtain ⟨⟨t0, t1, t2, t3, t4, t5⟩, _⟩ := six_cells hT
    have hHH := Lib.hid (And.intro hT (And.intro hZ hB))
    clear hT hZ hB hw6 hb5 hx
    go_upto_region 2 with fail
    rw [hw6H.out]
    go_wp2_with fail
    obtain ⟨X, hX⟩ : ∃ X, set6 w6 n₀ (.int .u8 (x.2.1.a.toNat : Int)) (.int .u8 (x.2.1.b.toNat : Int)) (.int .u8 (x.2.2.1.a.toNat : Int)) (.int .u8 (x.2.2.1.b.toNat : Int)) (.int .u8 (x.2.2.2.a.toNat : Int)) (.int .u8 (x.2.2.2.b.toNat : Int)) = X := ⟨_, rfl⟩
    have hXb := set6_blk (a := .int .u8 (x.2.1.a.toNat : Int)) (b := .int .u8 (x.2.1.b.toNat : Int)) (c := .int .u8 (x.2.2.1.a.toNat : Int)) (d := .int .u8 (x.2.2.1.b.toNat : Int)) (e := .int .u8 (x.2.2.2.a.toNat : Int)) (f := .int .u8 (x.2.2.2.b.toNat : Int)) (hHH.out.2.1)
    have hXB : Below n₀ w X := by rw [← hX]; exact set6_below (hHH.out.2.2) (Nat.le_refl _) _ _ _ _ _ _
    rw [hX] at hXb
    unfold set6 at hX
    rw [hX]
    have hXBH := Lib.hid hXB
    obtain ⟨⟨q0, q1, q2, q3, q4, q5⟩, _⟩ := six_cells hXb
    clear hX hXb hXB
    exact bodyPost_ret (v := .tuple #[.agg #[.int .u8 (x.2.1.a.toNat : Int), .int .u8 (x.2.1.b.toNat : Int), .int .u8 (x.2.2.1.a.toNat : Int), .int .u8 (x.2.2.1.b.toNat : Int), .int .u8 (x.2.2.2.a.toNat : Int), .int .u8 (x.2.2.2.b.toNat : Int)], .int .i64 ((i : Int) + 9)]) (by simp [results, Try.results62, go_sem, q0, q1, q2, q3, q4, q5]) rfl ⟨by rw [hn₀H.out]; exact hXBH.out, by rw [hmem.out]; rfl⟩
  · have hz5 := hb5.size
    have hZ : Blk (w5.alloc (.cells z6 100)) n₀ 100 #[.int .u8 0, .int .u8 0, .int .u8 0, .int .u8 0, .int .u8 0, .int .u8 0] := Blk.alloc ((hb5.block n₀ (by omega)).trans hR0.out) _
    have hB : Below n₀ w (w5.alloc (.cells z6 100)) := (hB0.out.trans (hb5.mono (by omega))).alloc (by omega) _
    obtain ⟨w6, hw6⟩ : ∃ w6, w5.alloc (.cells z6 100) = w6 := ⟨_, rfl⟩
    rw [hw6] at hZ hB
    have hw6H := Lib.hid hw6
    have hZH := Lib.hid hZ
    have hBH := Lib.hid hB
    have hz6 := hZ.lt
    have hnone := Lib.hid hx
    unfold z6 at hw6H ⊢
    obtain ⟨x0, hx0⟩ : ∃ x, p[i]? = some x := ⟨_, List.getElem?_eq_getElem (by rw [hnH.out]; exact hi)⟩
    obtain ⟨g, off, rfl, hg, c0, c1⟩ := (hPH.out.below hB) i x0 hx0
    have hx0H := Lib.hid hx0
    have hcell : Hid (∀ (j : Nat) (y : Ch), p[j]? = some y → ∀ W, Below w6.heap.size w6 W → W.cell? ⟨g, off + j * 2, none⟩ = some (.int .u8 (y.1.toNat : Int)) ∧ W.cell? ⟨g, off + j * 2 + 1, none⟩ = some (.bool y.2)) := Lib.hid (fun j y hy W hW => by
      obtain ⟨g', off', e', hg', d0, d1⟩ := (hPH.out.below hB) j y hy
      obtain ⟨rfl, rfl, -⟩ := Addr.mk.inj (Option.some.inj e')
      exact ⟨(hW.cell (p := ⟨g, off + j * 2, none⟩) (by show g < _; omega)).trans d0, (hW.cell (p := ⟨g, off + j * 2 + 1, none⟩) (by show g < _; omega)).trans d1⟩)
    have hBr := Below.refl w6.heap.size w6
    clear hZ hB hw6 hb5 hx hx0 hcl
    go_upto_region 4 with fail
    rw [hw6H.out]
    have hi' : (i : Int) < (n : Int) := by omega
    go_cut [39] (fun s39 wx => s39 = .bool (rangeB p i) ∧ Below w6.heap.size w6 wx)
    case first =>
      by_cases h2 : i + 2 < n
      · have h2' : (i : Int) + 2 < (n : Int) := by omega
        have h3' : (i : Int) + 1 < (n : Int) := by omega
        obtain ⟨x1, hx1⟩ : ∃ x, p[i + 1]? = some x := ⟨_, List.getElem?_eq_getElem (by rw [hnH.out]; omega)⟩
        obtain ⟨x2, hx2⟩ : ∃ x, p[i + 2]? = some x := ⟨_, List.getElem?_eq_getElem (by rw [hnH.out]; omega)⟩
        obtain ⟨d0, d1⟩ := hcell.out _ _ hx1 _ hBr
        have hD : Hid (∀ W, Below w6.heap.size w6 W → W.cell? ⟨g, off + (i + 2) * 2, none⟩ = some (.int .u8 (x2.1.toNat : Int)) ∧ W.cell? ⟨g, off + (i + 2) * 2 + 1, none⟩ = some (.bool x2.2)) := Lib.hid (hcell.out _ _ hx2)
        obtain ⟨v1, hv1⟩ : ∃ v, bareB x1 45 = v := ⟨_, rfl⟩
        obtain ⟨v2, hv2⟩ : ∃ v, bareB x2 93 = v := ⟨_, rfl⟩
        have hr : Hid (rangeB p i = (v1 && !v2)) := Lib.hid (by
          unfold rangeB
          rw [isAt_some hx1, isAt_some hx2, hv1, hv2, Bool.eq_iff_iff, decide_eq_true_iff]
          have : i + 2 < p.length := by rw [hnH.out]; exact h2
          cases v1 <;> cases v2 <;> simp [this])
        clear hx1 hx2
        cases v1
        · go_wp2_with (go_at_call 36; (with_reducible refine (bare45 _ hBr (Nat.le_refl _)).mono ?_); rintro e w7 ⟨rfl, hb7⟩)
          go_meet
          exact ⟨by rw [hr.out]; rfl, hb7⟩
        · cases v2
          · go_wp2_with (first | (go_at_call 36; (with_reducible refine (bare93 _ hb7 (Nat.le_refl _)).mono ?_); rintro e w8 ⟨rfl, hb8⟩) | (go_at_call 36; (with_reducible refine (bare45 _ hBr (Nat.le_refl _)).mono ?_); rintro e w7 ⟨rfl, hb7⟩; obtain ⟨d2, d3⟩ := hD.out _ hb7))
            go_meet
            exact ⟨by rw [hr.out]; rfl, hb8⟩
          · go_wp2_with (first | (go_at_call 36; (with_reducible refine (bare93 _ hb7 (Nat.le_refl _)).mono ?_); rintro e w8 ⟨rfl, hb8⟩) | (go_at_call 36; (with_reducible refine (bare45 _ hBr (Nat.le_refl _)).mono ?_); rintro e w7 ⟨rfl, hb7⟩; obtain ⟨d2, d3⟩ := hD.out _ hb7))
            go_meet
            exact ⟨by rw [hr.out]; rfl, hb8⟩
      · have h2' : ¬ (i : Int) + 2 < (n : Int) := by omega
        have hr : Hid (rangeB p i = false) := Lib.hid (decide_eq_false (fun h => by have := h.2.1; rw [hnH.out] at this; omega))
        go_wp2_with fail
        go_meet
        exact ⟨by rw [hr.out], hBr⟩
    case rest =>
      obtain ⟨rfl, hbc⟩ := hcut
      have hZc : Hid (∀ W, Below wc.heap.size wc W → Blk W n₀ 100 #[.int .u8 0, .int .u8 0, .int .u8 0, .int .u8 0, .int .u8 0, .int .u8 0]) := Lib.hid (fun W h => ((hbc.trans (h.mono hbc.size)).block _ hz6).trans hZH.out)
      have hBc : Hid (∀ W, Below wc.heap.size wc W → Below n₀ w W) := Lib.hid (fun W h => hBH.out.trans ((hbc.trans (h.mono hbc.size)).mono (by omega)))
      have hcellc : Hid (∀ (j : Nat) (y : Ch), p[j]? = some y → ∀ W, Below wc.heap.size wc W → W.cell? ⟨g, off + j * 2, none⟩ = some (.int .u8 (y.1.toNat : Int)) ∧ W.cell? ⟨g, off + j * 2 + 1, none⟩ = some (.bool y.2)) := Lib.hid (fun j y hy W h => hcell.out j y hy W (hbc.trans (h.mono hbc.size)))
      obtain ⟨c2, c3⟩ := hcellc.out _ _ hx0H.out wc (Below.refl _ _)
      clear hbc c0 c1 hBr
      cases hr : rangeB p i
      · have hmem := Lib.hid (memP_lone hnone.out hr)
        clear hr
        have hS : Hid (∀ W, Below wc.heap.size wc W → W.cell? ⟨g, off + i * 2, none⟩ = some (.int .u8 (x0.1.toNat : Int))) := Lib.hid (fun W h => (hcellc.out _ _ hx0H.out W h).1)
        have hone : Hid (∀ W, Below wc.heap.size wc W → Calls Try.prog 65 #[.agg #[.int .u8 (x0.1.toNat : Int), .int .u8 (x0.1.toNat : Int)]] W fun e w' => e = .returned (.agg #[.int .u8 (x0.1.toNat : Int), .int .u8 (x0.1.toNat : Int), .int .u8 1, .int .u8 0, .int .u8 1, .int .u8 0]) ∧ Below wc.heap.size wc w') := Lib.hid (fun W h => one_b ⟨x0.1, x0.1⟩ h (Nat.le_refl _))
        have e1 : IntKind.i64.wrap ((i : Int) + 1) = (i : Int) + 1 := IntWalk.i64_in _ (by omega)
        have e2 : IntKind.i64.wrap ((i : Int) + 2) = (i : Int) + 2 := IntWalk.i64_in _ (by omega)
        have e3 : (0 : Int) ≤ (i : Int) + 2 := by omega
        have e4 : ((i : Int) + 2).toNat = i + 2 := by omega
        have e5 : (0 : Int) ≤ (i : Int) := by omega
        have hgn : Hid (g ≠ n₀) := Lib.hid (by omega)
        go_upto_region 6 with fail
        go_region_with (go_at_call 65; (with_reducible refine (hone.out _ (Below.refl _ _).drew).mono ?_); rintro e w7 ⟨rfl, hb7⟩; obtain ⟨⟨z0, z1, z2, z3, z4, z5⟩, r0, r1, r2, r3, r4, r5⟩ := six_cells (hZc.out _ hb7))
        all_goals
          clear e1 e2 e3 e4 e5
          go_wp2_with fail
          obtain ⟨X, hX⟩ : ∃ X, set6 w7 n₀ (.int .u8 (x0.1.toNat : Int)) (.int .u8 (x0.1.toNat : Int)) (.int .u8 1) (.int .u8 0) (.int .u8 1) (.int .u8 0) = X := ⟨_, rfl⟩
          have hXb := set6_blk (a := .int .u8 (x0.1.toNat : Int)) (b := .int .u8 (x0.1.toNat : Int)) (c := .int .u8 1) (d := .int .u8 0) (e := .int .u8 1) (f := .int .u8 0) (hZc.out _ hb7)
          have hXB : Below n₀ w X := by rw [← hX]; exact set6_below (hBc.out _ hb7) (Nat.le_refl _) _ _ _ _ _ _
          rw [hX] at hXb
          unfold set6 at hX
          rw [hX]
          have hXBH := Lib.hid hXB
          obtain ⟨⟨q0, q1, q2, q3, q4, q5⟩, _⟩ := six_cells hXb
          clear hX hXb hXB
          exact bodyPost_ret (v := .tuple #[.agg #[.int .u8 (x0.1.toNat : Int), .int .u8 (x0.1.toNat : Int), .int .u8 1, .int .u8 0, .int .u8 1, .int .u8 0], .int .i64 ((i : Int) + 1)]) (by simp [results, Try.results62, go_sem, q0, q1, q2, q3, q4, q5]) rfl ⟨by rw [hn₀H.out]; exact hXBH.out, by rw [hmem.out, chAt_some hx0H.out]; rfl⟩
      · have hlt2 : Hid (i + 2 < n) := Lib.hid (by have := (of_decide_eq_true hr).2.1; rw [hnH.out] at this; exact this)
        have hmem := Lib.hid (memP_range hnone.out hr)
        clear hr
        have hi2 : i + 2 < n := by have := hlt2.out; omega
        obtain ⟨x2, hx2⟩ : ∃ x, p[i + 2]? = some x := ⟨_, List.getElem?_eq_getElem (by rw [hnH.out]; omega)⟩
        have hx2H := Lib.hid hx2
        obtain ⟨d2, d3⟩ := hcellc.out _ _ hx2 wc (Below.refl _ _)
        have hi2' : (i : Int) + 2 < (n : Int) := by omega
        clear hx2
        have hS : Hid (∀ W, Below wc.heap.size wc W → W.cell? ⟨g, off + i * 2, none⟩ = some (.int .u8 (x0.1.toNat : Int)) ∧ W.cell? ⟨g, off + (i + 2) * 2, none⟩ = some (.int .u8 (x2.1.toNat : Int))) := Lib.hid (fun W h => ⟨(hcellc.out _ _ hx0H.out W h).1, (hcellc.out _ _ hx2H.out W h).1⟩)
        have hone : Hid (∀ W, Below wc.heap.size wc W → Calls Try.prog 65 #[.agg #[.int .u8 (x0.1.toNat : Int), .int .u8 (x2.1.toNat : Int)]] W fun e w' => e = .returned (.agg #[.int .u8 (x0.1.toNat : Int), .int .u8 (x2.1.toNat : Int), .int .u8 1, .int .u8 0, .int .u8 1, .int .u8 0]) ∧ Below wc.heap.size wc w') := Lib.hid (fun W h => one_b ⟨x0.1, x2.1⟩ h (Nat.le_refl _))
        have e1 : IntKind.i64.wrap ((i : Int) + 3) = (i : Int) + 3 := IntWalk.i64_in _ (by omega)
        have e2 : IntKind.i64.wrap ((i : Int) + 2) = (i : Int) + 2 := IntWalk.i64_in _ (by omega)
        have e3 : (0 : Int) ≤ (i : Int) + 2 := by omega
        have e4 : ((i : Int) + 2).toNat = i + 2 := by omega
        have e5 : (0 : Int) ≤ (i : Int) := by omega
        have hgn : Hid (g ≠ n₀) := Lib.hid (by omega)
        go_upto_region 5 with fail
        go_region_with (go_at_call 65; (with_reducible refine (hone.out _ (Below.refl _ _).drew).mono ?_); rintro e w7 ⟨rfl, hb7⟩; obtain ⟨⟨z0, z1, z2, z3, z4, z5⟩, r0, r1, r2, r3, r4, r5⟩ := six_cells (hZc.out _ hb7))
        all_goals
          clear e1 e2 e3 e4 e5
          go_wp2_with fail
          obtain ⟨X, hX⟩ : ∃ X, set6 w7 n₀ (.int .u8 (x0.1.toNat : Int)) (.int .u8 (x2.1.toNat : Int)) (.int .u8 1) (.int .u8 0) (.int .u8 1) (.int .u8 0) = X := ⟨_, rfl⟩
          have hXb := set6_blk (a := .int .u8 (x0.1.toNat : Int)) (b := .int .u8 (x2.1.toNat : Int)) (c := .int .u8 1) (d := .int .u8 0) (e := .int .u8 1) (f := .int .u8 0) (hZc.out _ hb7)
          have hXB : Below n₀ w X := by rw [← hX]; exact set6_below (hBc.out _ hb7) (Nat.le_refl _) _ _ _ _ _ _
          rw [hX] at hXb
          unfold set6 at hX
          rw [hX]
          have hXBH := Lib.hid hXB
          obtain ⟨⟨q0, q1, q2, q3, q4, q5⟩, _⟩ := six_cells hXb
          clear hX hXb hXB
          exact bodyPost_ret (v := .tuple #[.agg #[.int .u8 (x0.1.toNat : Int), .int .u8 (x2.1.toNat : Int), .int .u8 1, .int .u8 0, .int .u8 1, .int .u8 0], .int .i64 ((i : Int) + 3)]) (by simp [results, Try.results62, go_sem, q0, q1, q2, q3, q4, q5]) rfl ⟨by rw [hn₀H.out]; exact hXBH.out, by rw [hmem.out, chAt_some hx0H.out, chAt_some hx2H.out]; rfl⟩
end Go.Proofs.Ytlaidmjlgjpgcaa
