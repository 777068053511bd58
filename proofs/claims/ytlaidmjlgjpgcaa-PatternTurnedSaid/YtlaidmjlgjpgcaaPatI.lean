/- lastCloser, elements. Condition: lengths. -/
import Derived.Test.YtlaidmjlgjpgcaaPatH
namespace Go.Proofs.Ytlaidmjlgjpgcaa
open Go.RowKit
attribute [local go_sem] Oper.semAt_some

def CloserR (p : List Ch) (w : World) (e : Ending) (w' : World) : Prop := Below w.heap.size w w' ∧ ∃ L : Int, e = .returned (.int .i64 L) ∧ -1 ≤ L ∧ L < p.length ∧ ∀ j : Nat, L < j → isAt p j 93 = false
set_option maxHeartbeats 1000000 in
set_option maxRecDepth 100000 in
theorem closer_any (av : Option Addr) (n cv : Nat) (p : List Ch) (w : World) (hn : p.length = n) (hP : ChsAt w.heap.size w av p) (hn2 : n ≤ 1000000) :
    Calls Try.prog 48 #[.slice av n cv] w (CloserR p w) := by
  have hnH := Lib.hid hn
  have hPH := Lib.hid hP
  clear hn hP
  go_enter Try.func48, Try.ntmps48
  go_wp2_with fail
  go_loopw [3] (fun s3 wr => ∃ k : Nat, k ≤ n ∧ s3 = .int .i64 ((k : Int) - 1) ∧ Hid (∀ j : Nat, k ≤ j → isAt p j 93 = false) ∧ Hid (Below w.heap.size w wr)) (fun s3 _ => (intOf s3 + 1).toNat)
  case atStart => exact ⟨n, Nat.le_refl _, rfl, Lib.hid (fun j hj => isAt_none (by rw [hnH.out]; exact hj)), Lib.hid (Below.refl _ _)⟩
  case round =>
    obtain ⟨k, hk, rfl, hno, hB⟩ := hrel
    rcases Nat.eq_zero_or_pos k with h0 | h0
    · subst h0
      go_wp2_with fail
      go_ret
      exact ⟨hB.out, -1, rfl, by omega, by omega, fun j hj => hno.out j (Nat.zero_le _)⟩
    · obtain ⟨m, rfl⟩ : ∃ m, k = m + 1 := ⟨k - 1, by omega⟩
      rw [show (((m + 1 : Nat) : Int) - 1) = (m : Int) by omega]
      have hm0 : (0 : Int) ≤ (m : Int) := by omega
      have hmn : (m : Int) < (n : Int) := by omega
      obtain ⟨x, hx⟩ : ∃ x, p[m]? = some x := ⟨_, List.getElem?_eq_getElem (by rw [hnH.out]; omega)⟩
      obtain ⟨g, off, rfl, hg, c0, c1⟩ := (hPH.out.below hB.out) m x hx
      have hxH := Lib.hid hx
      have hb := hB.out
      have hBr := Below.refl wr.heap.size wr
      obtain ⟨v, hv⟩ : ∃ v, bareB x 93 = v := ⟨_, rfl⟩
      have hvH := Lib.hid hv
      clear hx
      cases v
      · go_wp2_with (go_at_call 36; (with_reducible refine (bare93 _ hBr (Nat.le_refl _)).mono ?_); rintro e w7 ⟨rfl, hb7⟩)
        go_roundw
        case rel => exact ⟨m, by omega, rfl, Lib.hid (fun j hj => by
          by_cases e : j = m
          · subst e; rw [isAt_some hxH.out, hvH.out]
          · exact hno.out j (by omega)), Lib.hid (hb.trans (hb7.mono hb.size))⟩
        case measure => simp [intOf]
      · go_wp2_with (go_at_call 36; (with_reducible refine (bare93 _ hBr (Nat.le_refl _)).mono ?_); rintro e w7 ⟨rfl, hb7⟩)
        go_ret
        exact ⟨hb.trans (hb7.mono hb.size), m, rfl, by omega, by have := hnH.out; omega, fun j hj => hno.out j (by omega)⟩

theorem info82 : (Try.prog.info? 82).map (fun i => (i.zero, i.size, i.bytes)) = some (some (.agg #[.bool false, .int .u64 0, .int .u64 0, .int .u64 0, .int .u64 0]), 5, 40) := by kernel_rfl
theorem make_els (n : Nat) (hn : n ≤ 1000000) (w : World) : ∃ cur : Array Value, cur.size = n * 5 ∧ (Instr.makeSlice 54 (.int .i64 0) (.int .i64 (n : Int))).run Try.prog w = .ok (.slice (some ⟨w.heap.size, 0, none⟩) 0 n) (w.alloc (.cells cur 82)) := by
  obtain ⟨i0, hi, hz0, hz1, hz2⟩ := info_parts info82
  have hb : (i0.bytes : Int) * (n : Int) ≤ 281474976710656 := by rw [hz2]; omega
  have hr := run_make (P := Try.prog) w 54 82 i0 _ Try.underlying54 hi hz0 .i64 .i64 0 n (by omega) (by omega) hb (by omega)
  simp only [Int.toNat_natCast, Int.toNat_zero] at hr
  exact ⟨_, by simp [madeCells, hz1], hr⟩
/-- Elements that the program made. -/
def elC (ys : List (Bool × (Nat → Nat))) : List Value := ys.flatMap fun y => (elV y.1 y.2).toList
def ElsOwn (n₀ : Nat) (W : World) (v : Value) (l : List El) : Prop :=
  ∃ ys : List (Bool × (Nat → Nat)), ys.length = l.length ∧ (∀ (j : Nat) (y : Bool × (Nat → Nat)) (e : El), ys[j]? = some y → l[j]? = some e → y.1 = e.st ∧ Rep y.2 e.S) ∧ W.ownsRow n₀ 82 5 v l.length (elC ys)
def ElementsR (p : List Ch) (w : World) (e : Ending) (w' : World) : Prop := Below w.heap.size w w' ∧ ∃ v, e = .returned v ∧ ElsOwn w.heap.size w' v (els p 0)
theorem ElsOwn.snoc {n₀ : Nat} {W' : World} {v' : Value} {l : List El} {e : El} {x : Nat → Nat} {ys : List (Bool × (Nat → Nat))} (h1 : ys.length = l.length) (h2 : ∀ (j : Nat) (y : Bool × (Nat → Nat)) (e : El), ys[j]? = some y → l[j]? = some e → y.1 = e.st ∧ Rep y.2 e.S) (hR : Rep x e.S)
    (hown : W'.ownsRow n₀ 82 5 v' (l.length + 1) (elC ys ++ (elV e.st x).toList)) : ElsOwn n₀ W' v' (l ++ [e]) := by
  refine ⟨ys ++ [(e.st, x)], by rw [List.length_append, List.length_append, h1]; rfl, fun j y e' hy he => ?_, ?_⟩
  · by_cases hj : j < ys.length
    · rw [List.getElem?_append_left hj] at hy
      rw [List.getElem?_append_left (by omega)] at he
      exact h2 j y e' hy he
    · rw [List.getElem?_append_right (by omega)] at hy
      rw [List.getElem?_append_right (by omega)] at he
      have hj2 := (List.getElem?_eq_some_iff.1 hy).1
      rw [List.length_singleton] at hj2
      rw [show j - ys.length = 0 by omega] at hy
      rw [show j - l.length = 0 by omega] at he
      obtain rfl : (e.st, x) = y := by simpa using hy
      obtain rfl : e = e' := by simpa using he
      exact ⟨rfl, hR⟩
  · rw [List.length_append]
    have e1 : elC (ys ++ [(e.st, x)]) = elC ys ++ (elV e.st x).toList := by unfold elC; simp
    rw [e1]; exact hown

set_option maxHeartbeats 2000000 in
set_option maxRecDepth 100000 in
theorem elements_any (av : Option Addr) (n cv : Nat) (p : List Ch) (w : World) (hn : p.length = n) (hP : ChsAt w.heap.size w av p) (hn2 : n ≤ 1000000) :
    Calls Try.prog 33 #[.slice av n cv] w (ElementsR p w) := by
  obtain ⟨i0, hi0, hz0, hz1, hz2⟩ := info_parts info82
  have hnH := Lib.hid hn
  have hPH := Lib.hid hP
  obtain ⟨n₀, hn₀⟩ : ∃ n₀, w.heap.size = n₀ := ⟨_, rfl⟩
  have hn₀w : n₀ ≤ w.heap.size := by omega
  rw [hn₀] at hPH
  have hn₀H := Lib.hid hn₀
  obtain ⟨cur, hcur, hmk⟩ := make_els n hn2 w
  obtain ⟨W1, hW1⟩ : ∃ W1, w.alloc (.cells cur 82) = W1 := ⟨_, rfl⟩
  rw [hW1, hn₀] at hmk
  have hB1 : Hid (Below n₀ w W1) := Lib.hid (by rw [← hW1, ← hn₀]; exact (Below.refl _ _).alloc (Nat.le_refl _) _)
  have hown : Hid (W1.ownsRow n₀ 82 5 (.slice (some ⟨n₀, 0, none⟩) 0 n) 0 []) := Lib.hid (by
    rw [← hW1, ← hn₀]
    exact World.ownsRow_made w cur n (Nat.le_refl _) (by unfold maxLen; omega) hcur)
  have hcl := Lib.hid (closer_any av n cv p W1 hn ((hPH.out.below hB1.out).mono (by have := hB1.out.size; omega)) hn2)
  clear hn hP hW1 hcur hn₀
  go_enter Try.func33, Try.ntmps33
  go_wp2_with fail
  refine hcl.out.mono ?_
  rintro e w2 ⟨hb2, L, rfl, hL1, hL2, hL3⟩
  have hLH := Lib.hid hL3
  have hB2 : Hid (Below n₀ w w2) := Lib.hid (hB1.out.trans (hb2.mono (by have := hB1.out.size; omega)))
  have hown2 : Hid (w2.ownsRow n₀ 82 5 (.slice (some ⟨n₀, 0, none⟩) 0 n) 0 []) := Lib.hid (own_blk hown.out (fun q hq => hb2.block q (hown.out.lt q hq).2))
  have hLn : L < (n : Int) := by have := hnH.out; omega
  clear hb2 hL3 hmk
  go_wp2_with fail
  go_loopw [5, 3] (fun s5 s3 wr => ∃ (i : Nat) (l0 : List El), i ≤ n ∧ s5 = .int .i64 i ∧ Hid (els p 0 = l0 ++ els p i ∧ l0.length ≤ i ∧ ElsOwn n₀ wr s3 l0 ∧ Below n₀ w wr)) (fun s5 _ _ => n - (intOf s5).toNat)
  case atStart => exact ⟨0, [], Nat.zero_le _, rfl, Lib.hid ⟨rfl, Nat.le_refl _, ⟨[], rfl, fun j y e h => by simp at h, hown2.out⟩, hB2.out⟩⟩
  case round =>
    obtain ⟨i, l0, hi, rfl, hRel⟩ := hrel
    obtain ⟨ys, hys1, hys2, hownr⟩ := hRel.out.2.2.1
    obtain ⟨a3, c3, rfl⟩ := ownsRow_slice hownr
    have hsz := hRel.out.2.2.2.size
    have hownH := Lib.hid hownr
    have hysH := Lib.hid (And.intro hys1 hys2)
    clear hownr hys1 hys2
    by_cases hlt : i < n
    · have hlt' : (i : Int) < (n : Int) := by omega
      obtain ⟨x, hx⟩ : ∃ x, p[i]? = some x := ⟨_, List.getElem?_eq_getElem (by rw [hnH.out]; exact hlt)⟩
      obtain ⟨g, off, rfl, hg, c0, c1⟩ := (hPH.out.below hRel.out.2.2.2) i x hx
      have hxH := Lib.hid hx
      clear hx
      obtain ⟨be, hbe⟩ : ∃ be, wr.heap.size = be := ⟨_, rfl⟩
      obtain ⟨wa, hwa⟩ : ∃ wa, wr.alloc (.cells #[.bool false, .int .u64 0, .int .u64 0, .int .u64 0, .int .u64 0] 82) = wa := ⟨_, rfl⟩
      have hEa : Hid (ElB wa be false emp) := Lib.hid ⟨_, by rw [← hwa, ← hbe]; exact Blk.new _ _ _, emp_rep⟩
      have hwaB : Hid (Below be wr wa) := Lib.hid (by rw [← hwa, ← hbe]; exact (Below.refl _ _).alloc (Nat.le_refl _) _)
      have hbea : be < wa.heap.size := hEa.out.lt
      have hwaH := Lib.hid hwa
      have hbeH := Lib.hid hbe
      have hgb : g < be := by omega
      have hnbe : n₀ ≤ be := by omega
      have hcell : Hid (∀ (j : Nat) (y : Ch), p[j]? = some y → ∀ W, Below be wr W → W.cell? ⟨g, off + j * 2, none⟩ = some (.int .u8 (y.1.toNat : Int)) ∧ W.cell? ⟨g, off + j * 2 + 1, none⟩ = some (.bool y.2)) := Lib.hid (fun j y hy W hW => by
        obtain ⟨g', off', e', hg', d0, d1⟩ := (hPH.out.below hRel.out.2.2.2) j y hy
        obtain ⟨rfl, rfl, -⟩ := Addr.mk.inj (Option.some.inj e')
        exact ⟨(hW.cell (p := ⟨g, off + j * 2, none⟩) hgb).trans d0, (hW.cell (p := ⟨g, off + j * 2 + 1, none⟩) hgb).trans d1⟩)
      clear hbe hwa c0 c1
      go_upto_block 2 with fail
      rw [hwaH.out, hbeH.out]
      go_cut [7] (fun s7 wx => ∃ xw, Blk wx be 82 (elV (elAt p i).1.st xw) ∧ Rep xw (elAt p i).1.S ∧ s7 = .int .i64 ((elAt p i).2 : Nat) ∧ Below be wr wx)
      case first =>
        have hBa := Below.refl wa.heap.size wa
        have hcw : Hid (∀ W, Below wa.heap.size wa W → W.cell? ⟨g, off + i * 2, none⟩ = some (.int .u8 (x.1.toNat : Int)) ∧ W.cell? ⟨g, off + i * 2 + 1, none⟩ = some (.bool x.2)) := Lib.hid (fun W hW => hcell.out i x hxH.out W (hwaB.out.trans (hW.mono (by omega))))
        have hEw : Hid (∀ W, Below wa.heap.size wa W → ElB W be false emp) := Lib.hid (fun W hW => hEa.out.same (hW.block be hbea))
        have hBw : Hid (∀ W, Below wa.heap.size wa W → Below be wr W) := Lib.hid (fun W hW => hwaB.out.trans (hW.mono (by omega)))
        obtain ⟨c2, c3'⟩ := hcw.out _ hBa
        obtain ⟨v42, hv42⟩ : ∃ v, bareB x 42 = v := ⟨_, rfl⟩
        obtain ⟨v63, hv63⟩ : ∃ v, bareB x 63 = v := ⟨_, rfl⟩
        obtain ⟨v91, hv91⟩ : ∃ v, bareB x 91 = v := ⟨_, rfl⟩
        have hat : Hid (isAt p i 42 = v42 ∧ isAt p i 63 = v63 ∧ isAt p i 91 = v91) := Lib.hid ⟨by rw [isAt_some hxH.out, hv42], by rw [isAt_some hxH.out, hv63], by rw [isAt_some hxH.out, hv91]⟩
        cases v42
        · cases v63
          · have hel : Hid (elAt p i = if isAt p i 91 = true then (match brAt p i with | some (S, e) => (⟨false, S⟩, e) | none => (⟨false, fun c => c == (chAt p i).1⟩, i + 1)) else (⟨false, fun c => c == (chAt p i).1⟩, i + 1)) := Lib.hid (by unfold elAt; rw [hat.out.1, hat.out.2.1]; rfl)
            cases v91
            · have hd : Hid (chAt p i = x) := Lib.hid (chAt_some hxH.out)
              have hel2 : Hid (elAt p i = (⟨false, fun c => c == x.1⟩, i + 1)) := Lib.hid (by rw [hel.out, hat.out.2.2, hd.out]; rfl)
              go_upto_region 7 with (first | (go_at_call 36; (with_reducible refine (bare91 _ hb6 (Nat.le_refl _)).mono ?_); rintro e w7 ⟨rfl, hb7⟩; obtain ⟨d6, d7⟩ := hcw.out _ hb7) | (go_at_call 36; (with_reducible refine (bare63 _ hb5 (Nat.le_refl _)).mono ?_); rintro e w6 ⟨rfl, hb6⟩; obtain ⟨d4, d5⟩ := hcw.out _ hb6) | (go_at_call 36; (with_reducible refine (bare42 _ hBa (Nat.le_refl _)).mono ?_); rintro e w5 ⟨rfl, hb5⟩; obtain ⟨d2, d3⟩ := hcw.out _ hb5))
              have hadd : Hid (∀ m, Calls Try.prog 49 #[.pointer (some ⟨be, 0, none⟩), .agg #[.int .u8 (x.1.toNat : Int), .int .u8 (x.1.toNat : Int)]] (w7.drewN m) fun e w' => e = .returned (.tuple #[]) ∧ ElB w' be false (fun c => emp c || inSp ⟨x.1, x.1⟩ c) ∧ (w7.drewN m).grownBy w' (some be)) := Lib.hid (fun m => add_any be false emp ⟨x.1, x.1⟩ (w7.drewN m) (hEw.out _ (below_drewN hb7 m)))
              have hB6 := Lib.hid (hBw.out _ hb7)
              have hi0 : (0 : Int) ≤ (i : Int) := by omega
              clear d2 d3 d4 d5 d7 c2 c3' hb5 hb6 hBa hb7
              go_still_tail 11, (by kernel_rfl)
              change wpList _ _ _ _ _ (w7.drewN 1)
              go_wp2_with (go_at_call 49; refine (hadd.out _).mono ?_; rintro e w8 ⟨rfl, hE7, hG7⟩)
              go_meet
              rw [hel2.out]
              obtain ⟨xw, h1, h2⟩ := hE7
              have e : (fun c => emp c || inSp ⟨x.1, x.1⟩ c) = (fun c => c == x.1) := by funext c; exact (span_one x.1 c).symm
              rw [e] at h2
              exact ⟨xw, h1, h2, by go_num, hB6.out.trans ((below_drewN (Below.refl _ _) 1).trans ((Below.refl _ _).grown hG7 (by show be ≤ w7.heap.size; have := hB6.out.size; have := hbeH.out; omega) (fun j ej => by have := Option.some.inj ej; omega)))⟩
            · have hx1 : Hid (x.1 = 91) := Lib.hid (by
                unfold bareB at hv91
                exact beq_iff_eq.1 (Bool.and_eq_true_iff.1 hv91).1)
              have hd : Hid (chAt p i = x) := Lib.hid (chAt_some hxH.out)
              by_cases hiL : (i : Int) < L
              · have hi1 : i + 1 < n := by omega
                go_upto_region 13 with (first | (go_at_call 36; (with_reducible refine (bare91 _ hb6 (Nat.le_refl _)).mono ?_); rintro e w7 ⟨rfl, hb7⟩; obtain ⟨d6, d7⟩ := hcw.out _ hb7) | (go_at_call 36; (with_reducible refine (bare63 _ hb5 (Nat.le_refl _)).mono ?_); rintro e w6 ⟨rfl, hb6⟩; obtain ⟨d4, d5⟩ := hcw.out _ hb6) | (go_at_call 36; (with_reducible refine (bare42 _ hBa (Nat.le_refl _)).mono ?_); rintro e w5 ⟨rfl, hb5⟩; obtain ⟨d2, d3⟩ := hcw.out _ hb5))
                have hbrk := Lib.hid (bracket_any (some ⟨g, off, none⟩) n cv p i w7 hnH.out ((hPH.out.below (hRel.out.2.2.2.trans ((hBw.out _ hb7).mono (by omega)))).mono (by have h1 := (hBw.out _ hb7).size; omega)) hn2 hi1)
                have hb7H := Lib.hid hb7
                clear d2 d3 d4 d5 d6 d7 c2 c3' hb5 hb6 hBa hb7
                go_wp2_with fail
                refine hbrk.out.mono ?_
                rintro e w8 ⟨hb8, xb, hRb, rfl⟩
                have hb78 : Below wa.heap.size wa w8 := hb7H.out.trans (hb8.mono hb7H.out.size)
                obtain ⟨x0, hb0, _⟩ := hEw.out _ hb78
                unfold elV at hb0 ⊢
                obtain ⟨⟨z0, z1, z2, z3, z4⟩, r0, r1, r2, r3, r4⟩ := five_cells hb0
                have hH0 := Lib.hid (And.intro hb0 (And.intro hRb (hBw.out _ hb78)))
                clear hb0 hRb hb8 hb78
                go_wp2_with fail
                go_meet
                have hbr : (elAt p i).1.st = false ∧ (elAt p i).1.S = (brR p i).1 ∧ (elAt p i).2 = (brR p i).2 := by
                  rw [hel.out, hat.out.2.2, hd.out, hx1.out]
                  unfold brR
                  cases brAt p i with
                  | none => exact ⟨rfl, rfl, rfl⟩
                  | some r => exact ⟨rfl, rfl, rfl⟩
                rw [hbr.1, hbr.2.1, hbr.2.2]
                exact ⟨xb, set5_blk hH0.out.1, hH0.out.2.1, rfl, set5_below hH0.out.2.2 (Nat.le_refl _) _ _ _ _ _⟩
              · have hbn : Hid (brAt p i = none) := Lib.hid (by
                  cases hb : brAt p i with
                  | none => rfl
                  | some r =>
                    obtain ⟨S, e⟩ := r
                    obtain ⟨h1, h2, h3⟩ := brAt_next hb
                    have := hLH.out (e - 1) (by omega)
                    rw [this] at h3; cases h3)
                have hel2 : Hid (elAt p i = (⟨false, fun c => c == x.1⟩, i + 1)) := Lib.hid (by rw [hel.out, hat.out.2.2, hbn.out, hd.out]; rfl)
                go_upto_region 7 with (first | (go_at_call 36; (with_reducible refine (bare91 _ hb6 (Nat.le_refl _)).mono ?_); rintro e w7 ⟨rfl, hb7⟩; obtain ⟨d6, d7⟩ := hcw.out _ hb7) | (go_at_call 36; (with_reducible refine (bare63 _ hb5 (Nat.le_refl _)).mono ?_); rintro e w6 ⟨rfl, hb6⟩; obtain ⟨d4, d5⟩ := hcw.out _ hb6) | (go_at_call 36; (with_reducible refine (bare42 _ hBa (Nat.le_refl _)).mono ?_); rintro e w5 ⟨rfl, hb5⟩; obtain ⟨d2, d3⟩ := hcw.out _ hb5))
                have hadd : Hid (∀ m, Calls Try.prog 49 #[.pointer (some ⟨be, 0, none⟩), .agg #[.int .u8 (x.1.toNat : Int), .int .u8 (x.1.toNat : Int)]] (w7.drewN m) fun e w' => e = .returned (.tuple #[]) ∧ ElB w' be false (fun c => emp c || inSp ⟨x.1, x.1⟩ c) ∧ (w7.drewN m).grownBy w' (some be)) := Lib.hid (fun m => add_any be false emp ⟨x.1, x.1⟩ (w7.drewN m) (hEw.out _ (below_drewN hb7 m)))
                have hB6 := Lib.hid (hBw.out _ hb7)
                have hi0 : (0 : Int) ≤ (i : Int) := by omega
                clear d2 d3 d4 d5 d7 c2 c3' hb5 hb6 hBa hb7
                go_still_tail 11, (by kernel_rfl)
                change wpList _ _ _ _ _ (w7.drewN 1)
                go_wp2_with (go_at_call 49; refine (hadd.out _).mono ?_; rintro e w8 ⟨rfl, hE7, hG7⟩)
                go_meet
                rw [hel2.out]
                obtain ⟨xw, h1, h2⟩ := hE7
                have e : (fun c => emp c || inSp ⟨x.1, x.1⟩ c) = (fun c => c == x.1) := by funext c; exact (span_one x.1 c).symm
                rw [e] at h2
                exact ⟨xw, h1, h2, by go_num, hB6.out.trans ((below_drewN (Below.refl _ _) 1).trans ((Below.refl _ _).grown hG7 (by show be ≤ w7.heap.size; have := hB6.out.size; have := hbeH.out; omega) (fun j ej => by have := Option.some.inj ej; omega)))⟩
          · have hel : Hid (elAt p i = (⟨false, fun _ => true⟩, i + 1)) := Lib.hid (by unfold elAt; rw [hat.out.1, hat.out.2.1]; rfl)
            go_upto_region 11 with (first | (go_at_call 36; (with_reducible refine (bare63 _ hb5 (Nat.le_refl _)).mono ?_); rintro e w6 ⟨rfl, hb6⟩; obtain ⟨d4, d5⟩ := hcw.out _ hb6) | (go_at_call 36; (with_reducible refine (bare42 _ hBa (Nat.le_refl _)).mono ?_); rintro e w5 ⟨rfl, hb5⟩; obtain ⟨d2, d3⟩ := hcw.out _ hb5))
            have hadd := Lib.hid (add_any be false emp ⟨0, 255⟩ w6 (hEw.out _ hb6))
            have hB6 := Lib.hid (hBw.out _ hb6)
            clear d2 d3 d4 d5 c2 c3' hb5 hBa
            go_wp2_with (go_at_call 49; refine hadd.out.mono ?_; rintro e w7 ⟨rfl, hE7, hG7⟩)
            go_meet
            rw [hel.out]
            obtain ⟨xw, h1, h2⟩ := hE7
            have e : (fun c => emp c || inSp ⟨0, 255⟩ c) = (fun _ => true) := by
              funext c
              have := c.toNat_lt
              unfold emp inSp
              rw [Bool.false_or]
              exact decide_eq_true ⟨by show 0 ≤ c.toNat; omega, by show c.toNat ≤ 255; omega⟩
            rw [e] at h2
            exact ⟨xw, h1, h2, by go_num, hB6.out.trans ((Below.refl _ _).grown hG7 (by have := hB6.out.size; have := hbeH.out; omega) (fun j ej => by have := Option.some.inj ej; omega))⟩
        · have hel : Hid (elAt p i = (⟨true, fun _ => false⟩, i + 1)) := Lib.hid (by unfold elAt; rw [hat.out.1]; rfl)
          go_upto_region 9 with (go_at_call 36; (with_reducible refine (bare42 _ hBa (Nat.le_refl _)).mono ?_); rintro e w5 ⟨rfl, hb5⟩; obtain ⟨d2, d3⟩ := hcw.out _ hb5)
          obtain ⟨x0, hb0, hR0⟩ := hEw.out _ hb5
          have k0 := hb0.cell 0
          have f0 := hb0.frozen 0
          unfold elV at k0
          simp only [List.getElem?_toArray, List.getElem?_cons_zero] at k0
          have hH0 := Lib.hid (And.intro hb0 (And.intro hR0 (hBw.out _ hb5)))
          clear hb0 hR0 d2 d3 c2 c3' hb5 hBa
          go_wp2_with fail
          go_meet
          rw [hel.out]
          exact ⟨x0, hH0.out.1.set_ 0 _, hH0.out.2.1, by go_num, hH0.out.2.2.setCell (p := ⟨be, 0, none⟩) (Nat.le_refl _) _⟩
      case rest =>
        obtain ⟨xw, hbw, hRw, rfl, hBw⟩ := hcut
        have hnx := elAt_next p i (by rw [hnH.out]; exact hlt)
        have hels := Lib.hid (els_cons (p := p) (i := i) (by rw [hnH.out]; exact hlt))
        have hownc : Hid (wc.ownsRow n₀ 82 5 (.slice a3 l0.length c3) l0.length (elC ys)) := Lib.hid (own_blk hownH.out (fun q hq => hBw.block q (by have := (hownH.out.lt q hq).2; have := hbeH.out; omega)))
        have hBc : Hid (Below n₀ w wc) := Lib.hid (hRel.out.2.2.2.trans (hBw.mono hnbe))
        have hwcs := hBc.out.size
        have hl0 : l0.length ≤ 1000000 := by have := hRel.out.2.1; omega
        have hRH := Lib.hid hRw
        obtain ⟨st, hst⟩ : ∃ st, (elAt p i).1.st = st := ⟨_, rfl⟩
        have hstH := Lib.hid hst
        rw [hst] at hbw
        obtain ⟨nx, hnxe⟩ : ∃ nx, (elAt p i).2 = nx := ⟨_, rfl⟩
        have hnxH := Lib.hid hnxe
        rw [hnxe] at hnx ⊢
        have hnxn : nx ≤ n := by have := hnH.out; omega
        unfold elV at hbw
        obtain ⟨⟨t0, t1, t2, t3, t4⟩, _⟩ := five_cells hbw
        clear hbw hRw hBw hst hnxe hcell
        go_wp2_with (at_builtin; refine wpList_append_own _ rfl (.tmp 63) (.tmp 65) 54 rfl n₀ 82 i0 _ 5 40 Try.underlying54 hi0 hz0 hz1 hz2 rfl (by decide) (.slice a3 l0.length c3) l0.length (elC ys) rfl (hownc.out.alloc _) ⟨wc.heap.size, 0, none⟩ 1 1 [.bool st, .int .u64 (xw 0 : Nat), .int .u64 (xw 1 : Nat), .int .u64 (xw 2 : Nat), .int .u64 (xw 3 : Nat)] rfl rfl (World.news_of_block (cs := #[.bool st, .int .u64 (xw 0 : Nat), .int .u64 (xw 1 : Nat), .int .u64 (xw 2 : Nat), .int .u64 (xw 3 : Nat)]) (t := 82) (fr := (0, 0)) (heap_alloc_new wc _)) (by simp [Value.oneCell']) (by unfold maxLen; omega) (by omega) (by simp; omega) ?_; intro v' w3 own3 hgrow _)
        have ho3 : Hid (ElsOwn n₀ w3 v' (l0 ++ [(elAt p i).1])) := Lib.hid (ElsOwn.snoc hysH.out.1 hysH.out.2 hRH.out (by rw [hstH.out]; exact own3))
        have hb3 : Hid (Below n₀ w w3) := Lib.hid ((hBc.out.alloc (by omega) _).grown hgrow (by simp; omega) (fun q e => (hownc.out.lt q e).1))
        clear own3 hgrow
        go_wp2_with fail
        go_roundw
        case rel => exact ⟨nx, l0 ++ [(elAt p i).1], hnxn, rfl, Lib.hid ⟨by rw [hRel.out.1, hels.out, hnxH.out]; simp, by rw [List.length_append, List.length_singleton]; have := hRel.out.2.1; omega, ho3.out, hb3.out⟩⟩
        case measure => simp [intOf]; omega
    · have hlt' : ¬ (i : Int) < (n : Int) := by omega
      obtain rfl : i = n := by omega
      have hnil : Hid (els p i = []) := Lib.hid (els_nil (by rw [hnH.out]; exact Nat.le_refl _))
      go_wp2_with fail
      go_ret
      refine ⟨by rw [hn₀H.out]; exact hRel.out.2.2.2, _, rfl, ?_⟩
      have h := hRel.out.2.2.1
      have e := hRel.out.1
      rw [hnil.out, List.append_nil] at e
      rw [hn₀H.out, e]
      exact h
end Go.Proofs.Ytlaidmjlgjpgcaa
