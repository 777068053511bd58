/- class. Condition: lengths. -/
import Derived.Test.YtlaidmjlgjpgcaaPatC
namespace Go.Proofs.Ytlaidmjlgjpgcaa
open Go.RowKit
attribute [local go_sem] Oper.semAt_some

/-- A pattern in memory, below n₀. -/
def ChsAt (n₀ : Nat) (W : World) (av : Option Addr) (p : List Ch) : Prop :=
  ∀ (i : Nat) (x : Ch), p[i]? = some x → ∃ b off, av = some ⟨b, off, none⟩ ∧ b < n₀ ∧ W.cell? ⟨b, off + i * 2, none⟩ = some (.int .u8 (x.1.toNat : Int)) ∧ W.cell? ⟨b, off + i * 2 + 1, none⟩ = some (.bool x.2)
theorem ChsAt.below {n₀ : Nat} {W W' : World} {av : Option Addr} {p : List Ch} (h : ChsAt n₀ W av p) (hb : Below n₀ W W') : ChsAt n₀ W' av p := fun i x hx => by
  obtain ⟨b, off, e, hlt, c0, c1⟩ := h i x hx
  exact ⟨b, off, e, hlt, (hb.cell (p := ⟨b, off + i * 2, none⟩) hlt).trans c0, (hb.cell (p := ⟨b, off + i * 2 + 1, none⟩) hlt).trans c1⟩
theorem ChsAt.mono {n₀ n₁ : Nat} {W : World} {av : Option Addr} {p : List Ch} (h : ChsAt n₀ W av p) (hn : n₀ ≤ n₁) : ChsAt n₁ W av p := fun i x hx => by
  obtain ⟨b, off, e, hlt, c0, c1⟩ := h i x hx
  exact ⟨b, off, e, by omega, c0, c1⟩
theorem bare_b {B : Nat} {W0 W : World} (x : Ch) (b : UInt8) (h : Below B W0 W) (hB : B ≤ W0.heap.size) : Calls Try.prog 36 #[.agg #[.int .u8 (x.1.toNat : Int), .bool x.2], .int .u8 (b.toNat : Int)] W fun e w' => e = .returned (.bool (bareB x b)) ∧ Below B W0 w' :=
  (bare_any x b W).mono fun _ _ ⟨h1, h2⟩ => ⟨h1, h.trans (h2.mono (Nat.le_trans hB h.size))⟩
theorem bare33 {B : Nat} {W0 W : World} (x : Ch) (h : Below B W0 W) (hB : B ≤ W0.heap.size) : Calls Try.prog 36 #[.agg #[.int .u8 (x.1.toNat : Int), .bool x.2], .int .u8 33] W fun e w' => e = .returned (.bool (bareB x 33)) ∧ Below B W0 w' := bare_b x 33 h hB
theorem bare42 {B : Nat} {W0 W : World} (x : Ch) (h : Below B W0 W) (hB : B ≤ W0.heap.size) : Calls Try.prog 36 #[.agg #[.int .u8 (x.1.toNat : Int), .bool x.2], .int .u8 42] W fun e w' => e = .returned (.bool (bareB x 42)) ∧ Below B W0 w' := bare_b x 42 h hB
theorem bare45 {B : Nat} {W0 W : World} (x : Ch) (h : Below B W0 W) (hB : B ≤ W0.heap.size) : Calls Try.prog 36 #[.agg #[.int .u8 (x.1.toNat : Int), .bool x.2], .int .u8 45] W fun e w' => e = .returned (.bool (bareB x 45)) ∧ Below B W0 w' := bare_b x 45 h hB
theorem bare58 {B : Nat} {W0 W : World} (x : Ch) (h : Below B W0 W) (hB : B ≤ W0.heap.size) : Calls Try.prog 36 #[.agg #[.int .u8 (x.1.toNat : Int), .bool x.2], .int .u8 58] W fun e w' => e = .returned (.bool (bareB x 58)) ∧ Below B W0 w' := bare_b x 58 h hB
theorem bare63 {B : Nat} {W0 W : World} (x : Ch) (h : Below B W0 W) (hB : B ≤ W0.heap.size) : Calls Try.prog 36 #[.agg #[.int .u8 (x.1.toNat : Int), .bool x.2], .int .u8 63] W fun e w' => e = .returned (.bool (bareB x 63)) ∧ Below B W0 w' := bare_b x 63 h hB
theorem bare91 {B : Nat} {W0 W : World} (x : Ch) (h : Below B W0 W) (hB : B ≤ W0.heap.size) : Calls Try.prog 36 #[.agg #[.int .u8 (x.1.toNat : Int), .bool x.2], .int .u8 91] W fun e w' => e = .returned (.bool (bareB x 91)) ∧ Below B W0 w' := bare_b x 91 h hB
theorem bare93 {B : Nat} {W0 W : World} (x : Ch) (h : Below B W0 W) (hB : B ≤ W0.heap.size) : Calls Try.prog 36 #[.agg #[.int .u8 (x.1.toNat : Int), .bool x.2], .int .u8 93] W fun e w' => e = .returned (.bool (bareB x 93)) ∧ Below B W0 w' := bare_b x 93 h hB
/-- The word's bytes, in their array. -/
def WordAt (W : World) (g : Nat) (wl : List UInt8) : Prop := ∃ cs : Array Value, Blk W g 108 cs ∧ cs.size = 5 ∧ ∀ (k : Nat) (b : UInt8), wl[k]? = some b → cs[k]? = some (Value.int .u8 (b.toNat : Int))
theorem al108 : Try.prog.arrayLen 108 = 5 := by kernel_rfl
theorem slice_word (g m : Nat) (w : World) (hm : m ≤ 5) : Sem.run Try.prog (Instr.sliceAt 108 (.pointer (some ⟨g, 0, none⟩)) none (some (.int .i64 (m : Int))) none) w = .ok (.slice (some ⟨g, 0, none⟩) m 5) w := by
  have h := run_sliceAt_array_h (P := Try.prog) (w := w) (a := ⟨g, 0, none⟩) (t := 108) (by kernel_rfl) .i64 (m : Int) (by omega) (by rw [al108]; omega)
  rw [h, al108]
  simp [go_sem, slicedAt]
/-- What class gives. -/
def ClassR (r : Option (List UInt8 × Mem)) (i : Nat) (w : World) (e : Ending) (w' : World) : Prop :=
  Below w.heap.size w w' ∧ ((∃ x, r = some x ∧ e = .returned (.tuple #[memV x.2, .int .i64 ((i + 9 : Nat) : Int)])) ∨ (r = none ∧ e = .returned (.tuple #[.agg z6, .int .i64 0])))

set_option maxHeartbeats 3000000 in
set_option maxRecDepth 100000 in
theorem class_any (av : Option Addr) (n cv : Nat) (p : List Ch) (i : Nat) (w : World) (hn : p.length = n) (hP : ChsAt w.heap.size w av p) (hn2 : n ≤ 1000000) (hi : i < n) :
    Calls Try.prog 64 #[.slice av n cv, .int .i64 i] w (ClassR (clsAt p i) i w) := by
  have hnH := Lib.hid hn
  have hPH := Lib.hid hP
  obtain ⟨n₀, hn₀⟩ : ∃ n₀, w.heap.size = n₀ := ⟨_, rfl⟩
  rw [hn₀] at hPH
  have hn₀H := Lib.hid hn₀
  have hn₀w : n₀ ≤ w.heap.size := by omega
  obtain ⟨W0, hW0⟩ : ∃ W0, w.alloc (.cells z6 100) = W0 := ⟨_, rfl⟩
  have hs0 : W0.heap.size = n₀ + 1 := by rw [← hW0]; simp [hn₀]
  have hB0 : Hid (Below n₀ w W0) := Lib.hid (by rw [← hW0, ← hn₀]; exact (Below.refl _ _).alloc (Nat.le_refl _) _)
  have hR0 : Hid (Blk W0 n₀ 100 #[.int .u8 0, .int .u8 0, .int .u8 0, .int .u8 0, .int .u8 0, .int .u8 0]) := Lib.hid (by rw [← hW0, ← hn₀]; exact Blk.new _ _ _)
  have hs1 : n₀ + 1 ≤ W0.heap.size := by omega
  have hs2 : W0.heap.size ≤ n₀ + 1 := by omega
  have hW : Hid (w.alloc (.cells #[.int .u8 0, .int .u8 0, .int .u8 0, .int .u8 0, .int .u8 0, .int .u8 0] 100) = W0) := Lib.hid hW0
  have hP0 : Hid (ChsAt n₀ W0 av p) := Lib.hid (hPH.out.below hB0.out)
  clear hn hP hW0 hs0
  go_enter Try.func64, Try.ntmps64
  go_upto_region 1 with fail
  rw [hW.out]
  obtain ⟨x0, hx0⟩ : ∃ x, p[i]? = some x := ⟨_, List.getElem?_eq_getElem (by rw [hnH.out]; exact hi)⟩
  obtain ⟨g, off, rfl, hg, c0, c1⟩ := hP0.out i x0 hx0
  have hx0H := Lib.hid hx0
  clear hx0 hn₀
  have hi' : (i : Int) < (n : Int) := by omega
  have hB00 := Below.refl W0.heap.size W0
  go_cut [32] (fun s32 wx => s32 = .bool (!(isAt p i 91 && isAt p (i + 1) 58)) ∧ Below W0.heap.size W0 wx)
  case first =>
    by_cases h1 : i + 1 < n
    · have h1' : (i : Int) + 1 < (n : Int) := by omega
      have h1'' : ¬ (n : Int) ≤ (i : Int) + 1 := by omega
      obtain ⟨x1, hx1⟩ : ∃ x, p[i + 1]? = some x := ⟨_, List.getElem?_eq_getElem (by rw [hnH.out]; exact h1)⟩
      obtain ⟨g', off', e', _, d0, d1⟩ := hP0.out (i + 1) x1 hx1
      obtain ⟨rfl, rfl, -⟩ := Addr.mk.inj (Option.some.inj e')
      have ha : Hid (isAt p i 91 = bareB x0 91) := Lib.hid (isAt_some hx0H.out)
      have hb : Hid (isAt p (i + 1) 58 = bareB x1 58) := Lib.hid (isAt_some hx1)
      clear hx1 e'
      obtain ⟨v0, hv0⟩ : ∃ v, bareB x0 91 = v := ⟨_, rfl⟩
      obtain ⟨v1, hv1⟩ : ∃ v, bareB x1 58 = v := ⟨_, rfl⟩
      have hD : Hid (∀ W, Below W0.heap.size W0 W → W.cell? ⟨g, off + (i + 1) * 2, none⟩ = some (.int .u8 (x1.1.toNat : Int)) ∧ W.cell? ⟨g, off + (i + 1) * 2 + 1, none⟩ = some (.bool x1.2)) := Lib.hid (fun W h => ⟨(h.cell (p := ⟨g, off + (i + 1) * 2, none⟩) (by show g < _; omega)).trans d0, (h.cell (p := ⟨g, off + (i + 1) * 2 + 1, none⟩) (by show g < _; omega)).trans d1⟩)
      cases v0
      · go_wp2_with (go_at_call 36; (with_reducible refine (bare91 _ hB00 (Nat.le_refl _)).mono ?_); rintro e w5 ⟨rfl, hb5⟩)
        go_meet
        exact ⟨by rw [ha.out, hv0]; rfl, hb5⟩
      · cases v1
        · go_wp2_with (first | (go_at_call 36; (with_reducible refine (bare58 _ hb5 (Nat.le_refl _)).mono ?_); rintro e w6 ⟨rfl, hb6⟩) | (go_at_call 36; (with_reducible refine (bare91 _ hB00 (Nat.le_refl _)).mono ?_); rintro e w5 ⟨rfl, hb5⟩; obtain ⟨d2, d3⟩ := hD.out _ hb5))
          go_meet
          exact ⟨by rw [ha.out, hb.out, hv0, hv1]; rfl, hb6⟩
        · go_wp2_with (first | (go_at_call 36; (with_reducible refine (bare58 _ hb5 (Nat.le_refl _)).mono ?_); rintro e w6 ⟨rfl, hb6⟩) | (go_at_call 36; (with_reducible refine (bare91 _ hB00 (Nat.le_refl _)).mono ?_); rintro e w5 ⟨rfl, hb5⟩; obtain ⟨d2, d3⟩ := hD.out _ hb5))
          go_meet
          exact ⟨by rw [ha.out, hb.out, hv0, hv1]; rfl, hb6⟩
    · have h1'' : (n : Int) ≤ (i : Int) + 1 := by omega
      have hb : Hid (isAt p (i + 1) 58 = false) := Lib.hid (isAt_none (by rw [hnH.out]; omega))
      go_wp2_with fail
      go_meet
      exact ⟨by rw [hb.out, Bool.and_false]; rfl, hB00⟩
  case rest =>
    obtain ⟨rfl, hbc⟩ := hcut
    have hbcH := Lib.hid hbc
    clear hB00 c0 c1
    cases hop : (isAt p i 91 && isAt p (i + 1) 58)
    · have hnone : Hid (clsAt p i = none) := Lib.hid (find_none (fun e he => cls_open (by
        cases h : isAt p i 91
        · exact .inl rfl
        · rw [h, Bool.true_and] at hop; exact .inr hop) he))
      have HB : Blk wc n₀ 100 #[.int .u8 0, .int .u8 0, .int .u8 0, .int .u8 0, .int .u8 0, .int .u8 0] := (hbc.block _ (by omega)).trans hR0.out
      obtain ⟨⟨k0, k1, k2, k3, k4, k5⟩, f0, f1, f2, f3, f4, f5⟩ := six_cells HB
      have HBH := Lib.hid HB
      clear hop HB hbc
      go_wp2_with fail
      obtain ⟨X, hX⟩ : ∃ X, set6 wc n₀ (.int .u8 0) (.int .u8 0) (.int .u8 0) (.int .u8 0) (.int .u8 0) (.int .u8 0) = X := ⟨_, rfl⟩
      have hXb := set6_blk (a := .int .u8 0) (b := .int .u8 0) (c := .int .u8 0) (d := .int .u8 0) (e := .int .u8 0) (f := .int .u8 0) (HBH.out)
      have hXB : Below n₀ w X := by rw [← hX]; exact set6_below (hB0.out.trans (hbcH.out.mono (by omega))) (Nat.le_refl _) _ _ _ _ _ _
      rw [hX] at hXb
      unfold set6 at hX
      rw [hX]
      have hXBH := Lib.hid hXB
      obtain ⟨⟨q0, q1, q2, q3, q4, q5⟩, _⟩ := six_cells hXb
      clear hX hXb hXB
      exact bodyPost_ret (v := .tuple #[.agg #[.int .u8 0, .int .u8 0, .int .u8 0, .int .u8 0, .int .u8 0, .int .u8 0], .int .i64 0]) (by simp [results, Try.results64, go_sem, q0, q1, q2, q3, q4, q5]) rfl ⟨by rw [hn₀H.out]; exact hXBH.out, .inr ⟨hnone.out, rfl⟩⟩
    · have hop1 : isAt p i 91 = true ∧ isAt p (i + 1) 58 = true := Bool.and_eq_true_iff.1 hop
      have hopH := Lib.hid hop1
      have HBc : Blk wc n₀ 100 #[.int .u8 0, .int .u8 0, .int .u8 0, .int .u8 0, .int .u8 0, .int .u8 0] := (hbc.block _ (by omega)).trans hR0.out
      have HBcH := Lib.hid HBc
      have hwcs := hbc.size
      have hwn : n₀ < wc.heap.size := by omega
      clear hop hop1 HBc hbc
      simp only [Bool.not_true]
      go_wp2_with fail
      go_loopw [8, 7] (fun s8 s7 wr => ∃ wl : List UInt8, s7 = .int .i64 wl.length ∧ s8 = .int .i64 (i + 2 + wl.length : Nat) ∧ i + 2 + wl.length ≤ n + 2 ∧ Hid (Word p i wl) ∧ Hid (Blk wr n₀ 100 #[.int .u8 0, .int .u8 0, .int .u8 0, .int .u8 0, .int .u8 0, .int .u8 0]) ∧ Hid (WordAt wr wc.heap.size wl) ∧ Hid (Below n₀ w wr)) (fun s8 _ _ => n + 5 - (intOf s8).toNat)
      case atStart =>
        refine ⟨[], rfl, by go_num, by show i + 2 + 0 ≤ n + 2; omega, Lib.hid ⟨by decide, fun k b h => by simp at h⟩, Lib.hid (HBcH.out.alloc _), Lib.hid ⟨#[.int .u8 0, .int .u8 0, .int .u8 0, .int .u8 0, .int .u8 0], Blk.new _ _ _, rfl, (fun k b h => by simp at h)⟩, Lib.hid ((hB0.out.trans (hbcH.out.mono (by omega))).alloc (by omega) _)⟩
      case round =>
        obtain ⟨wl, rfl, rfl, hle, hWd, hZ, hCs, hBe⟩ := hrel
        obtain ⟨m, hm⟩ : ∃ m, wl.length = m := ⟨_, rfl⟩
        have hmH := Lib.hid hm
        have hm5 : m ≤ 5 := by rw [← hm]; exact hWd.out.1
        have hsz := hBe.out.size
        have hszn : n₀ ≤ wr.heap.size := Nat.le_trans hn₀w hsz
        have hnz : n₀ < wr.heap.size := hZ.out.lt
        rw [hm] at hle ⊢
        clear hm
        obtain ⟨⟨k0, k1, k2, k3, k4, k5⟩, f0, f1, f2, f3, f4, f5⟩ := six_cells hZ.out
        by_cases hlt : i + 2 + m + 1 < n
        · have hlt' : ((i + 2 + m : Nat) : Int) + 1 < (n : Int) := by omega
          obtain ⟨x, hx⟩ : ∃ x, p[i + 2 + m]? = some x := ⟨_, List.getElem?_eq_getElem (by rw [hnH.out]; omega)⟩
          obtain ⟨g', off', e', _, c0, c1⟩ := (hPH.out.below hBe.out) (i + 2 + m) x hx
          obtain ⟨rfl, rfl, -⟩ := Addr.mk.inj (Option.some.inj e')
          have hxH := Lib.hid hx
          obtain ⟨c, q⟩ := x
          simp only at c0 c1
          clear hx e'
          cases q
          · by_cases h58 : c = 58
            · subst h58
              have hcc := Lib.hid (clsAt_closed hWd.out hopH.out.1 hopH.out.2 (by rw [hmH.out]; exact isAt_iff.2 hxH.out))
              obtain ⟨cs, hb, hs5, hcs⟩ := hCs.out
              have hsl := slice_word wc.heap.size m wr hm5
              have hconv := run_convert_bytes_back (P := Try.prog) wr 35 9 5 ⟨wc.heap.size, 0, none⟩ 5 wl Try.underlying35 Try.underlying5 Try.underlying9 (fun j hj => by
                rw [Lib.add_plain, Nat.zero_add, hb.cell]
                exact hcs j _ (List.getElem?_eq_getElem hj))
              rw [hmH.out] at hconv
              have hsp := Lib.hid (spans_any ⟨wl.toArray⟩ wr)
              obtain ⟨x2, hx2⟩ : ∃ x, p[i + 2 + m + 1]? = some x := ⟨_, List.getElem?_eq_getElem (by rw [hnH.out]; omega)⟩
              obtain ⟨g', off', e', _, d0, d1⟩ := (hPH.out.below hBe.out) (i + 2 + m + 1) x2 hx2
              obtain ⟨rfl, rfl, -⟩ := Addr.mk.inj (Option.some.inj e')
              have hv93 : Hid (isAt p (i + 2 + m + 1) 93 = bareB x2 93) := Lib.hid (isAt_some hx2)
              have hD : Hid (∀ W, Below wr.heap.size wr W → (W.cell? ⟨g, off + (i + 2 + m + 1) * 2, none⟩ = some (.int .u8 (x2.1.toNat : Int)) ∧ W.cell? ⟨g, off + (i + 2 + m + 1) * 2 + 1, none⟩ = some (.bool x2.2)) ∧ Blk W n₀ 100 #[.int .u8 0, .int .u8 0, .int .u8 0, .int .u8 0, .int .u8 0, .int .u8 0]) := Lib.hid (fun W h => ⟨⟨(h.cell (p := ⟨g, off + (i + 2 + m + 1) * 2, none⟩) (by show g < _; omega)).trans d0, (h.cell (p := ⟨g, off + (i + 2 + m + 1) * 2 + 1, none⟩) (by show g < _; omega)).trans d1⟩, (h.block _ (by omega)).trans hZ.out⟩)
              clear hb hcs hs5 hx2 e' d0 d1
              go_wp2_with fail
              refine hsp.out.mono ?_
              rintro e w6 ⟨hb6, ⟨mm, hmm, rfl⟩ | ⟨hmm, rfl⟩⟩
              · have hw5 := lookW_five hmm
                have hm5e : Hid (m = 5) := Lib.hid (by rw [← hmH.out]; exact hw5)
                have hsz6 := hb6.size
                obtain ⟨v93, hv⟩ : ∃ v, bareB x2 93 = v := ⟨_, rfl⟩
                rw [hv, ← hmH.out] at hv93
                rw [hv93.out] at hcc
                unfold memV memC
                have hA6 : Below wr.heap.size wr (w6.alloc (.cells #[.int .u8 (mm.1.a.toNat : Int), .int .u8 (mm.1.b.toNat : Int), .int .u8 (mm.2.1.a.toNat : Int), .int .u8 (mm.2.1.b.toNat : Int), .int .u8 (mm.2.2.a.toNat : Int), .int .u8 (mm.2.2.b.toNat : Int)] 100)) := hb6.alloc hsz6 _
                obtain ⟨w7, hw7⟩ : ∃ w7, w6.alloc (.cells #[.int .u8 (mm.1.a.toNat : Int), .int .u8 (mm.1.b.toNat : Int), .int .u8 (mm.2.1.a.toNat : Int), .int .u8 (mm.2.1.b.toNat : Int), .int .u8 (mm.2.2.a.toNat : Int), .int .u8 (mm.2.2.b.toNat : Int)] 100) = w7 := ⟨_, rfl⟩
                have hT : Blk w7 w6.heap.size 100 #[.int .u8 (mm.1.a.toNat : Int), .int .u8 (mm.1.b.toNat : Int), .int .u8 (mm.2.1.a.toNat : Int), .int .u8 (mm.2.1.b.toNat : Int), .int .u8 (mm.2.2.a.toNat : Int), .int .u8 (mm.2.2.b.toNat : Int)] := by rw [← hw7]; exact Blk.new _ _ _
                have hw7H := Lib.hid hw7
                rw [hw7] at hA6
                obtain ⟨⟨y0, y1⟩, hZ7⟩ := hD.out _ hA6
                have hTH := Lib.hid hT
                have hmmH := Lib.hid hmm
                clear hw7 hT hZ7 hmm hb6
                go_upto_region 10 with fail
                rw [hw7H.out]
                have hBe7 : Hid (∀ W, Below wr.heap.size wr W → Below n₀ w W) := Lib.hid (fun W h => hBe.out.trans (h.mono (by omega)))
                have hT2 : Hid (∀ W, Below w7.heap.size w7 W → Blk W w6.heap.size 100 #[.int .u8 (mm.1.a.toNat : Int), .int .u8 (mm.1.b.toNat : Int), .int .u8 (mm.2.1.a.toNat : Int), .int .u8 (mm.2.1.b.toNat : Int), .int .u8 (mm.2.2.a.toNat : Int), .int .u8 (mm.2.2.b.toNat : Int)]) := Lib.hid (fun W h => (h.block _ hTH.out.lt).trans hTH.out)
                have hA7 := Below.refl w7.heap.size w7
                have hA67 : Hid (∀ W, Below w7.heap.size w7 W → Below wr.heap.size wr W) := Lib.hid (fun W h => hA6.trans (h.mono hA6.size))
                clear hw5
                cases v93
                · have hnone : Hid (clsAt p i = none) := Lib.hid (Option.map_eq_none_iff.1 (by rw [hcc.out]; rfl))
                  go_wp2_with (go_at_call 36; (with_reducible refine (bare93 _ hA7 (Nat.le_refl _)).mono ?_); rintro e w8 ⟨rfl, hb8⟩; have hZ8 := (hD.out _ (hA67.out _ hb8)).2; obtain ⟨⟨z0, z1, z2, z3, z4, z5⟩, r0, r1, r2, r3, r4, r5⟩ := six_cells hZ8)
                  obtain ⟨X, hX⟩ : ∃ X, set6 w8 n₀ (.int .u8 0) (.int .u8 0) (.int .u8 0) (.int .u8 0) (.int .u8 0) (.int .u8 0) = X := ⟨_, rfl⟩
                  have hXb := set6_blk (a := .int .u8 0) (b := .int .u8 0) (c := .int .u8 0) (d := .int .u8 0) (e := .int .u8 0) (f := .int .u8 0) ((hD.out _ (hA67.out _ hb8)).2)
                  have hXB : Below n₀ w X := by rw [← hX]; exact set6_below (hBe7.out _ (hA67.out _ hb8)) (Nat.le_refl _) _ _ _ _ _ _
                  rw [hX] at hXb
                  unfold set6 at hX
                  rw [hX]
                  have hXBH := Lib.hid hXB
                  obtain ⟨⟨q0, q1, q2, q3, q4, q5⟩, _⟩ := six_cells hXb
                  clear hX hXb hXB
                  exact bodyPost_ret (v := .tuple #[.agg #[.int .u8 0, .int .u8 0, .int .u8 0, .int .u8 0, .int .u8 0, .int .u8 0], .int .i64 0]) (by simp [results, Try.results64, go_sem, q0, q1, q2, q3, q4, q5]) rfl ⟨by rw [hn₀H.out]; exact hXBH.out, .inr ⟨hnone.out, rfl⟩⟩
                · have hsome : Hid (∃ x, clsAt p i = some x ∧ x.2 = mm) := Lib.hid (by
                    have h3 := hcc.out
                    rw [if_pos rfl, hmmH.out] at h3
                    exact Option.map_eq_some_iff.1 h3)
                  go_wp2_with (go_at_call 36; (with_reducible refine (bare93 _ hA7 (Nat.le_refl _)).mono ?_); rintro e w8 ⟨rfl, hb8⟩; have hZ8 := (hD.out _ (hA67.out _ hb8)).2; obtain ⟨⟨z0, z1, z2, z3, z4, z5⟩, r0, r1, r2, r3, r4, r5⟩ := six_cells hZ8; obtain ⟨⟨t0, t1, t2, t3, t4, t5⟩, _⟩ := six_cells (hT2.out _ hb8))
                  obtain ⟨X, hX⟩ : ∃ X, set6 w8 n₀ (.int .u8 (mm.1.a.toNat : Int)) (.int .u8 (mm.1.b.toNat : Int)) (.int .u8 (mm.2.1.a.toNat : Int)) (.int .u8 (mm.2.1.b.toNat : Int)) (.int .u8 (mm.2.2.a.toNat : Int)) (.int .u8 (mm.2.2.b.toNat : Int)) = X := ⟨_, rfl⟩
                  have hXb := set6_blk (a := .int .u8 (mm.1.a.toNat : Int)) (b := .int .u8 (mm.1.b.toNat : Int)) (c := .int .u8 (mm.2.1.a.toNat : Int)) (d := .int .u8 (mm.2.1.b.toNat : Int)) (e := .int .u8 (mm.2.2.a.toNat : Int)) (f := .int .u8 (mm.2.2.b.toNat : Int)) ((hD.out _ (hA67.out _ hb8)).2)
                  have hXB : Below n₀ w X := by rw [← hX]; exact set6_below (hBe7.out _ (hA67.out _ hb8)) (Nat.le_refl _) _ _ _ _ _ _
                  rw [hX] at hXb
                  unfold set6 at hX
                  rw [hX]
                  have hXBH := Lib.hid hXB
                  obtain ⟨⟨q0, q1, q2, q3, q4, q5⟩, _⟩ := six_cells hXb
                  clear hX hXb hXB
                  exact bodyPost_ret (v := .tuple #[.agg #[.int .u8 (mm.1.a.toNat : Int), .int .u8 (mm.1.b.toNat : Int), .int .u8 (mm.2.1.a.toNat : Int), .int .u8 (mm.2.1.b.toNat : Int), .int .u8 (mm.2.2.a.toNat : Int), .int .u8 (mm.2.2.b.toNat : Int)], .int .i64 ((i : Int) + 2 + m + 2)]) (by simp [results, Try.results64, go_sem, q0, q1, q2, q3, q4, q5]) rfl ⟨by rw [hn₀H.out]; exact hXBH.out, .inl (by obtain ⟨x, h1, h2⟩ := hsome.out; exact ⟨x, h1, by rw [h2, hm5e.out, show ((i : Int) + 2 + (5 : Nat) + 2) = ((i + 9 : Nat) : Int) by omega]; rfl⟩)⟩
              · have hnone : Hid (clsAt p i = none) := Lib.hid (Option.map_eq_none_iff.1 (by
                  rw [hcc.out]
                  split
                  · exact hmm
                  · rfl))
                have hZ8 : Blk (w6.alloc (.cells #[.int .u8 0, .int .u8 0, .int .u8 0, .int .u8 0, .int .u8 0, .int .u8 0] 100)) n₀ 100 #[.int .u8 0, .int .u8 0, .int .u8 0, .int .u8 0, .int .u8 0, .int .u8 0] := ((hD.out _ hb6).2).alloc _
                have hB8 : Below wr.heap.size wr (w6.alloc (.cells #[.int .u8 0, .int .u8 0, .int .u8 0, .int .u8 0, .int .u8 0, .int .u8 0] 100)) := hb6.alloc hb6.size _
                obtain ⟨w8, hw8⟩ : ∃ w8, w6.alloc (.cells #[.int .u8 0, .int .u8 0, .int .u8 0, .int .u8 0, .int .u8 0, .int .u8 0] 100) = w8 := ⟨_, rfl⟩
                have hw8H := Lib.hid hw8
                rw [hw8] at hZ8 hB8
                have hZ8H := Lib.hid hZ8
                have hB8H := Lib.hid hB8
                obtain ⟨⟨z0, z1, z2, z3, z4, z5⟩, r0, r1, r2, r3, r4, r5⟩ := six_cells hZ8
                unfold z6
                clear hw8 hmm hb6 hZ8 hB8
                go_upto_region 10 with fail
                rw [hw8H.out]
                go_wp2_with fail
                obtain ⟨X, hX⟩ : ∃ X, set6 w8 n₀ (.int .u8 0) (.int .u8 0) (.int .u8 0) (.int .u8 0) (.int .u8 0) (.int .u8 0) = X := ⟨_, rfl⟩
                have hXb := set6_blk (a := .int .u8 0) (b := .int .u8 0) (c := .int .u8 0) (d := .int .u8 0) (e := .int .u8 0) (f := .int .u8 0) (hZ8H.out)
                have hXB : Below n₀ w X := by rw [← hX]; exact set6_below (hBe.out.trans (hB8H.out.mono (by omega))) (Nat.le_refl _) _ _ _ _ _ _
                rw [hX] at hXb
                unfold set6 at hX
                rw [hX]
                have hXBH := Lib.hid hXB
                obtain ⟨⟨q0, q1, q2, q3, q4, q5⟩, _⟩ := six_cells hXb
                clear hX hXb hXB
                exact bodyPost_ret (v := .tuple #[.agg #[.int .u8 0, .int .u8 0, .int .u8 0, .int .u8 0, .int .u8 0, .int .u8 0], .int .i64 0]) (by simp [results, Try.results64, go_sem, q0, q1, q2, q3, q4, q5]) rfl ⟨by rw [hn₀H.out]; exact hXBH.out, .inr ⟨hnone.out, rfl⟩⟩
            · have e58 : ((c.toNat : Int) == 58) = false := beq_eq_false_iff_ne.2 (fun e => h58 (UInt8.toNat_inj.1 (by show c.toNat = 58; omega)))
              have h58H := Lib.hid h58
              clear h58
              by_cases hm6 : m = 5
              · have hnone : Hid (clsAt p i = none) := Lib.hid (find_none (fun e he => cls_stop hWd.out (by
                  rw [hmH.out]
                  refine .inr (.inr ⟨hm6, ?_⟩)
                  rw [isAt_some hxH.out]
                  unfold bareB
                  rw [beq_eq_false_iff_ne.2 h58H.out]; rfl) he))
                subst hm6
                go_wp2_with fail
                obtain ⟨X, hX⟩ : ∃ X, set6 wr n₀ (.int .u8 0) (.int .u8 0) (.int .u8 0) (.int .u8 0) (.int .u8 0) (.int .u8 0) = X := ⟨_, rfl⟩
                have hXb := set6_blk (a := .int .u8 0) (b := .int .u8 0) (c := .int .u8 0) (d := .int .u8 0) (e := .int .u8 0) (f := .int .u8 0) (hZ.out)
                have hXB : Below n₀ w X := by rw [← hX]; exact set6_below (hBe.out) (Nat.le_refl _) _ _ _ _ _ _
                rw [hX] at hXb
                unfold set6 at hX
                rw [hX]
                have hXBH := Lib.hid hXB
                obtain ⟨⟨q0, q1, q2, q3, q4, q5⟩, _⟩ := six_cells hXb
                clear hX hXb hXB
                exact bodyPost_ret (v := .tuple #[.agg #[.int .u8 0, .int .u8 0, .int .u8 0, .int .u8 0, .int .u8 0, .int .u8 0], .int .i64 0]) (by simp [results, Try.results64, go_sem, q0, q1, q2, q3, q4, q5]) rfl ⟨by rw [hn₀H.out]; exact hXBH.out, .inr ⟨hnone.out, rfl⟩⟩
              · have hm7 : m < 5 := by omega
                obtain ⟨cs, hb, hs5, hcs⟩ := hCs.out
                have w1 : wr.cell? ⟨wc.heap.size, m, none⟩ = cs[m]? := hb.cell m
                have w2 : wr.frozen? ⟨wc.heap.size, m, none⟩ = false := hb.frozen m
                rw [Array.getElem?_eq_getElem (by rw [hs5]; exact hm7)] at w1
                have hm7' : (m : Int) < 5 := by omega
                have hm8 : (0 : Int) ≤ (m : Int) := by omega
                have hm9 : ((m : Int) == 5) = false := beq_eq_false_iff_ne.2 (by omega)
                have hHc := Lib.hid (And.intro hb (And.intro hs5 hcs))
                obtain ⟨y, hy⟩ : ∃ y, cs[m]'(by rw [hs5]; exact hm7) = y := ⟨_, rfl⟩
                rw [hy] at w1
                clear hy hb hs5 hcs hm6
                go_wp2_with fail
                go_roundw
                case rel =>
                  have hw' : Word p i (wl ++ [c]) := ⟨by rw [List.length_append, hmH.out]; show m + 1 ≤ 5; omega, fun k b hk => by
                    by_cases hk2 : k < wl.length
                    · rw [List.getElem?_append_left hk2] at hk
                      exact hWd.out.2 k b hk
                    · rw [List.getElem?_append_right (by omega)] at hk
                      have hk3 := (List.getElem?_eq_some_iff.1 hk).1
                      rw [List.length_singleton] at hk3
                      obtain rfl : k = m := by have := hmH.out; omega
                      rw [hmH.out, Nat.sub_self] at hk
                      obtain rfl : c = b := by simpa using hk
                      exact ⟨isAt_iff.2 hxH.out, h58H.out⟩⟩
                  refine ⟨wl ++ [c], by rw [List.length_append, hmH.out]; go_num, by rw [List.length_append, hmH.out]; go_num, by rw [List.length_append, hmH.out]; show i + 2 + (m + 1) ≤ n + 2; omega, Lib.hid hw', Lib.hid (hZ.out.far (p := ⟨wc.heap.size, m, none⟩) (by show n₀ ≠ wc.heap.size; omega) _), Lib.hid ⟨cs.setIfInBounds m (.int .u8 (c.toNat : Int)), hHc.out.1.set_ m _, by rw [Array.size_setIfInBounds]; exact hHc.out.2.1, fun k b hk => ?_⟩, Lib.hid (hBe.out.setCell (p := ⟨wc.heap.size, m, none⟩) (by show n₀ ≤ wc.heap.size; omega) _)⟩
                  rw [Array.getElem?_setIfInBounds]
                  by_cases hk2 : k < wl.length
                  · rw [List.getElem?_append_left hk2] at hk
                    rw [if_neg (by have := hmH.out; omega)]
                    exact hHc.out.2.2 k b hk
                  · rw [List.getElem?_append_right (by omega)] at hk
                    have hk3 := (List.getElem?_eq_some_iff.1 hk).1
                    rw [List.length_singleton] at hk3
                    obtain rfl : k = m := by have := hmH.out; omega
                    rw [hmH.out, Nat.sub_self] at hk
                    obtain rfl : c = b := by simpa using hk
                    rw [if_pos rfl, if_pos (by rw [hHc.out.2.1]; exact hm7)]
                case measure => simp [intOf]; omega
          · have hnone : Hid (clsAt p i = none) := Lib.hid (find_none (fun e he => cls_stop hWd.out (.inr (.inl ⟨_, by rw [hmH.out]; exact hxH.out, rfl⟩)) he))
            go_wp2_with fail
            obtain ⟨X, hX⟩ : ∃ X, set6 wr n₀ (.int .u8 0) (.int .u8 0) (.int .u8 0) (.int .u8 0) (.int .u8 0) (.int .u8 0) = X := ⟨_, rfl⟩
            have hXb := set6_blk (a := .int .u8 0) (b := .int .u8 0) (c := .int .u8 0) (d := .int .u8 0) (e := .int .u8 0) (f := .int .u8 0) (hZ.out)
            have hXB : Below n₀ w X := by rw [← hX]; exact set6_below (hBe.out) (Nat.le_refl _) _ _ _ _ _ _
            rw [hX] at hXb
            unfold set6 at hX
            rw [hX]
            have hXBH := Lib.hid hXB
            obtain ⟨⟨q0, q1, q2, q3, q4, q5⟩, _⟩ := six_cells hXb
            clear hX hXb hXB
            exact bodyPost_ret (v := .tuple #[.agg #[.int .u8 0, .int .u8 0, .int .u8 0, .int .u8 0, .int .u8 0, .int .u8 0], .int .i64 0]) (by simp [results, Try.results64, go_sem, q0, q1, q2, q3, q4, q5]) rfl ⟨by rw [hn₀H.out]; exact hXBH.out, .inr ⟨hnone.out, rfl⟩⟩
        · have hlt' : ¬ ((i + 2 + m : Nat) : Int) + 1 < (n : Int) := by omega
          have hnone : Hid (clsAt p i = none) := Lib.hid (find_none (fun e he => cls_stop hWd.out (.inl (by rw [hmH.out, hnH.out]; omega)) he))
          go_wp2_with fail
          obtain ⟨X, hX⟩ : ∃ X, set6 wr n₀ (.int .u8 0) (.int .u8 0) (.int .u8 0) (.int .u8 0) (.int .u8 0) (.int .u8 0) = X := ⟨_, rfl⟩
          have hXb := set6_blk (a := .int .u8 0) (b := .int .u8 0) (c := .int .u8 0) (d := .int .u8 0) (e := .int .u8 0) (f := .int .u8 0) (hZ.out)
          have hXB : Below n₀ w X := by rw [← hX]; exact set6_below (hBe.out) (Nat.le_refl _) _ _ _ _ _ _
          rw [hX] at hXb
          unfold set6 at hX
          rw [hX]
          have hXBH := Lib.hid hXB
          obtain ⟨⟨q0, q1, q2, q3, q4, q5⟩, _⟩ := six_cells hXb
          clear hX hXb hXB
          exact bodyPost_ret (v := .tuple #[.agg #[.int .u8 0, .int .u8 0, .int .u8 0, .int .u8 0, .int .u8 0, .int .u8 0], .int .i64 0]) (by simp [results, Try.results64, go_sem, q0, q1, q2, q3, q4, q5]) rfl ⟨by rw [hn₀H.out]; exact hXBH.out, .inr ⟨hnone.out, rfl⟩⟩
end Go.Proofs.Ytlaidmjlgjpgcaa
