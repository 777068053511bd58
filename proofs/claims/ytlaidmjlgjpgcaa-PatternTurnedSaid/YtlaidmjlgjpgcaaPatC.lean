/- spansOf. No condition. -/
import Derived.Test.YtlaidmjlgjpgcaaPatB
namespace Go.Proofs.Ytlaidmjlgjpgcaa
open Go.RowKit
attribute [local go_sem] Oper.semAt_some

/-- What spansOf gives. -/
def SpansR (r : Option Mem) (w : World) (e : Ending) (w' : World) : Prop :=
  Below w.heap.size w w' ∧ ((∃ m, r = some m ∧ e = .returned (.tuple #[memV m, .bool true])) ∨ (r = none ∧ e = .returned (.tuple #[.agg z6, .bool false])))
theorem one_b {B : Nat} {W0 W : World} (s : Sp) (h : Below B W0 W) (hB : B ≤ W0.heap.size) : Calls Try.prog 65 #[spV s] W fun e w' => e = .returned (memV (oneM s)) ∧ Below B W0 w' :=
  (one_any s W).mono fun _ _ ⟨h1, h2⟩ => ⟨h1, h.trans (h2.mono (Nat.le_trans hB h.size))⟩

/-- The memory in which a class's spans are looked for. -/
def sp0 (w : World) : World := (((w.alloc (.cells z6 100)).alloc (.cells #[.int .u8 65, .int .u8 90] 87)).alloc (.cells #[.int .u8 97, .int .u8 122] 87)).alloc (.cells #[.int .u8 48, .int .u8 57] 87)
theorem sp0_size (w : World) : (sp0 w).heap.size = w.heap.size + 4 := by unfold sp0; simp
theorem sp0_below (w : World) : Below w.heap.size w (sp0 w) := ((((Below.refl _ _).alloc (Nat.le_refl _) _).alloc (by simp) _).alloc (by simp; omega) _).alloc (by simp; omega) _
theorem sp0_res {w W : World} (h : Below (sp0 w).heap.size (sp0 w) W) : Blk W w.heap.size 100 #[.int .u8 0, .int .u8 0, .int .u8 0, .int .u8 0, .int .u8 0, .int .u8 0] :=
  (h.block _ (by rw [sp0_size]; omega)).trans ((((Blk.new w 100 z6).alloc _).alloc _).alloc _)
theorem sp0_1 {w W : World} (h : Below (sp0 w).heap.size (sp0 w) W) : Blk W (w.heap.size + 1) 87 #[.int .u8 65, .int .u8 90] := by
  have k := ((Blk.new (w.alloc (.cells z6 100)) 87 #[.int .u8 65, .int .u8 90]).alloc (.cells #[.int .u8 97, .int .u8 122] 87)).alloc (.cells #[.int .u8 48, .int .u8 57] 87)
  rw [World.size_alloc] at k
  exact (h.block _ (by rw [sp0_size]; omega)).trans k
theorem sp0_2 {w W : World} (h : Below (sp0 w).heap.size (sp0 w) W) : Blk W (w.heap.size + 1 + 1) 87 #[.int .u8 97, .int .u8 122] := by
  have k := (Blk.new ((w.alloc (.cells z6 100)).alloc (.cells #[.int .u8 65, .int .u8 90] 87)) 87 #[.int .u8 97, .int .u8 122]).alloc (.cells #[.int .u8 48, .int .u8 57] 87)
  rw [World.size_alloc, World.size_alloc] at k
  exact (h.block _ (by rw [sp0_size]; omega)).trans k
theorem sp0_3 {w W : World} (h : Below (sp0 w).heap.size (sp0 w) W) : Blk W (w.heap.size + 1 + 1 + 1) 87 #[.int .u8 48, .int .u8 57] := by
  have k := Blk.new (((w.alloc (.cells z6 100)).alloc (.cells #[.int .u8 65, .int .u8 90] 87)).alloc (.cells #[.int .u8 97, .int .u8 122] 87)) 87 #[.int .u8 48, .int .u8 57]
  rw [World.size_alloc, World.size_alloc, World.size_alloc] at k
  exact (h.block _ (by rw [sp0_size]; omega)).trans k

set_option maxHeartbeats 1000000 in
set_option maxRecDepth 100000 in
theorem spans_alpha (w : World) : Calls Try.prog 66 #[.string ⟨#[97, 108, 112, 104, 97]⟩] w (SpansR (lookW [97, 108, 112, 104, 97]) w) := by
  have hbr := Below.refl (sp0 w).heap.size (sp0 w)
  obtain ⟨⟨k0, k1, k2, k3, k4, k5⟩, f0, f1, f2, f3, f4, f5⟩ := six_cells (sp0_res hbr)
  have s10 := (sp0_1 hbr).cell 0
  have s11 := (sp0_1 hbr).cell 1
  have s20 := (sp0_2 hbr).cell 0
  have s21 := (sp0_2 hbr).cell 1
  have s30 := (sp0_3 hbr).cell 0
  have s31 := (sp0_3 hbr).cell 1
  simp only [List.getElem?_toArray, List.getElem?_cons_zero, List.getElem?_cons_succ] at s10 s11 s20 s21 s30 s31
  have hW : Hid ((((w.alloc (.cells #[.int .u8 0, .int .u8 0, .int .u8 0, .int .u8 0, .int .u8 0, .int .u8 0] 100)).alloc (.cells #[.int .u8 65, .int .u8 90] 87)).alloc (.cells #[.int .u8 97, .int .u8 122] 87)).alloc (.cells #[.int .u8 48, .int .u8 57] 87) = sp0 w) := Lib.hid rfl
  go_enter Try.func66, Try.ntmps66
  go_upto_region 4 with fail
  rw [hW.out]
  go_region_with (go_at_call 67; refine (nothing_b hbr.drew (Nat.le_refl _)).mono ?_; rintro e w6 ⟨rfl, HB⟩; obtain ⟨⟨z0, z1, z2, z3, z4, z5⟩, y0, y1, y2, y3, y4, y5⟩ := six_cells (sp0_res HB); have t10 : w6.cell? ⟨w.heap.size + 1, 0, none⟩ = some (.int .u8 65) := (sp0_1 HB).cell 0; have t11 : w6.cell? ⟨w.heap.size + 1, 1, none⟩ = some (.int .u8 90) := (sp0_1 HB).cell 1; have t20 : w6.cell? ⟨w.heap.size + 1 + 1, 0, none⟩ = some (.int .u8 97) := (sp0_2 HB).cell 0; have t21 : w6.cell? ⟨w.heap.size + 1 + 1, 1, none⟩ = some (.int .u8 122) := (sp0_2 HB).cell 1)
  all_goals
    obtain ⟨X, hX⟩ : ∃ X, set6 w6 w.heap.size (.int .u8 65) (.int .u8 90) (.int .u8 97) (.int .u8 122) (.int .u8 1) (.int .u8 0) = X := ⟨_, rfl⟩
    have hXb := set6_blk (a := .int .u8 65) (b := .int .u8 90) (c := .int .u8 97) (d := .int .u8 122) (e := .int .u8 1) (f := .int .u8 0) (sp0_res HB)
    have hXB : Below w.heap.size w X := by rw [← hX]; exact set6_below ((sp0_below w).trans (HB.mono (by rw [sp0_size]; omega))) (Nat.le_refl _) _ _ _ _ _ _
    rw [hX] at hXb
    unfold set6 at hX
    rw [hX]
    have hXBH := Lib.hid hXB
    obtain ⟨⟨q0, q1, q2, q3, q4, q5⟩, _⟩ := six_cells hXb
    clear hX hXb hXB
    go_wp2_with fail
    exact bodyPost_ret (v := .tuple #[.agg #[.int .u8 65, .int .u8 90, .int .u8 97, .int .u8 122, .int .u8 1, .int .u8 0], .bool true]) (by simp [results, Try.f66, go_sem, q0, q1, q2, q3, q4, q5]) rfl ⟨hXBH.out, .inl ⟨_, rfl, rfl⟩⟩

set_option maxHeartbeats 1000000 in
set_option maxRecDepth 100000 in
theorem spans_digit (w : World) : Calls Try.prog 66 #[.string ⟨#[100, 105, 103, 105, 116]⟩] w (SpansR (lookW [100, 105, 103, 105, 116]) w) := by
  have hbr := Below.refl (sp0 w).heap.size (sp0 w)
  obtain ⟨⟨k0, k1, k2, k3, k4, k5⟩, f0, f1, f2, f3, f4, f5⟩ := six_cells (sp0_res hbr)
  have s10 := (sp0_1 hbr).cell 0
  have s11 := (sp0_1 hbr).cell 1
  have s20 := (sp0_2 hbr).cell 0
  have s21 := (sp0_2 hbr).cell 1
  have s30 := (sp0_3 hbr).cell 0
  have s31 := (sp0_3 hbr).cell 1
  simp only [List.getElem?_toArray, List.getElem?_cons_zero, List.getElem?_cons_succ] at s10 s11 s20 s21 s30 s31
  have hW : Hid ((((w.alloc (.cells #[.int .u8 0, .int .u8 0, .int .u8 0, .int .u8 0, .int .u8 0, .int .u8 0] 100)).alloc (.cells #[.int .u8 65, .int .u8 90] 87)).alloc (.cells #[.int .u8 97, .int .u8 122] 87)).alloc (.cells #[.int .u8 48, .int .u8 57] 87) = sp0 w) := Lib.hid rfl
  go_enter Try.func66, Try.ntmps66
  go_upto_region 6 with fail
  rw [hW.out]
  go_wp2_with (go_at_call 65; refine (show Calls Try.prog 65 #[.agg #[.int .u8 48, .int .u8 57]] (sp0 w) (fun e w' => e = .returned (.agg #[.int .u8 48, .int .u8 57, .int .u8 1, .int .u8 0, .int .u8 1, .int .u8 0]) ∧ Below (sp0 w).heap.size (sp0 w) w') from one_b ⟨48, 57⟩ hbr (Nat.le_refl _)).mono ?_; rintro e w6 ⟨rfl, HB⟩; obtain ⟨⟨z0, z1, z2, z3, z4, z5⟩, y0, y1, y2, y3, y4, y5⟩ := six_cells (sp0_res HB))
  all_goals
    obtain ⟨X, hX⟩ : ∃ X, set6 w6 w.heap.size (.int .u8 48) (.int .u8 57) (.int .u8 1) (.int .u8 0) (.int .u8 1) (.int .u8 0) = X := ⟨_, rfl⟩
    have hXb := set6_blk (a := .int .u8 48) (b := .int .u8 57) (c := .int .u8 1) (d := .int .u8 0) (e := .int .u8 1) (f := .int .u8 0) (sp0_res HB)
    have hXB : Below w.heap.size w X := by rw [← hX]; exact set6_below ((sp0_below w).trans (HB.mono (by rw [sp0_size]; omega))) (Nat.le_refl _) _ _ _ _ _ _
    rw [hX] at hXb
    unfold set6 at hX
    rw [hX]
    have hXBH := Lib.hid hXB
    obtain ⟨⟨q0, q1, q2, q3, q4, q5⟩, _⟩ := six_cells hXb
    clear hX hXb hXB
    exact bodyPost_ret (v := .tuple #[.agg #[.int .u8 48, .int .u8 57, .int .u8 1, .int .u8 0, .int .u8 1, .int .u8 0], .bool true]) (by simp [results, Try.f66, go_sem, q0, q1, q2, q3, q4, q5]) rfl ⟨hXBH.out, .inl ⟨_, rfl, rfl⟩⟩

set_option maxHeartbeats 1000000 in
set_option maxRecDepth 100000 in
theorem spans_alnum (w : World) : Calls Try.prog 66 #[.string ⟨#[97, 108, 110, 117, 109]⟩] w (SpansR (lookW [97, 108, 110, 117, 109]) w) := by
  have hbr := Below.refl (sp0 w).heap.size (sp0 w)
  obtain ⟨⟨k0, k1, k2, k3, k4, k5⟩, f0, f1, f2, f3, f4, f5⟩ := six_cells (sp0_res hbr)
  have s10 := (sp0_1 hbr).cell 0
  have s11 := (sp0_1 hbr).cell 1
  have s20 := (sp0_2 hbr).cell 0
  have s21 := (sp0_2 hbr).cell 1
  have s30 := (sp0_3 hbr).cell 0
  have s31 := (sp0_3 hbr).cell 1
  simp only [List.getElem?_toArray, List.getElem?_cons_zero, List.getElem?_cons_succ] at s10 s11 s20 s21 s30 s31
  have hW : Hid ((((w.alloc (.cells #[.int .u8 0, .int .u8 0, .int .u8 0, .int .u8 0, .int .u8 0, .int .u8 0] 100)).alloc (.cells #[.int .u8 65, .int .u8 90] 87)).alloc (.cells #[.int .u8 97, .int .u8 122] 87)).alloc (.cells #[.int .u8 48, .int .u8 57] 87) = sp0 w) := Lib.hid rfl
  go_enter Try.func66, Try.ntmps66
  go_upto_region 8 with fail
  rw [hW.out]
  have HB := hbr
  go_wp2_with fail
  all_goals
    obtain ⟨X, hX⟩ : ∃ X, set6 (sp0 w) w.heap.size (.int .u8 65) (.int .u8 90) (.int .u8 97) (.int .u8 122) (.int .u8 48) (.int .u8 57) = X := ⟨_, rfl⟩
    have hXb := set6_blk (a := .int .u8 65) (b := .int .u8 90) (c := .int .u8 97) (d := .int .u8 122) (e := .int .u8 48) (f := .int .u8 57) (sp0_res HB)
    have hXB : Below w.heap.size w X := by rw [← hX]; exact set6_below ((sp0_below w).trans (HB.mono (by rw [sp0_size]; omega))) (Nat.le_refl _) _ _ _ _ _ _
    rw [hX] at hXb
    unfold set6 at hX
    rw [hX]
    have hXBH := Lib.hid hXB
    obtain ⟨⟨q0, q1, q2, q3, q4, q5⟩, _⟩ := six_cells hXb
    clear hX hXb hXB
    exact bodyPost_ret (v := .tuple #[.agg #[.int .u8 65, .int .u8 90, .int .u8 97, .int .u8 122, .int .u8 48, .int .u8 57], .bool true]) (by simp [results, Try.f66, go_sem, q0, q1, q2, q3, q4, q5]) rfl ⟨hXBH.out, .inl ⟨_, rfl, rfl⟩⟩

set_option maxHeartbeats 1000000 in
set_option maxRecDepth 100000 in
theorem spans_upper (w : World) : Calls Try.prog 66 #[.string ⟨#[117, 112, 112, 101, 114]⟩] w (SpansR (lookW [117, 112, 112, 101, 114]) w) := by
  have hbr := Below.refl (sp0 w).heap.size (sp0 w)
  obtain ⟨⟨k0, k1, k2, k3, k4, k5⟩, f0, f1, f2, f3, f4, f5⟩ := six_cells (sp0_res hbr)
  have s10 := (sp0_1 hbr).cell 0
  have s11 := (sp0_1 hbr).cell 1
  have s20 := (sp0_2 hbr).cell 0
  have s21 := (sp0_2 hbr).cell 1
  have s30 := (sp0_3 hbr).cell 0
  have s31 := (sp0_3 hbr).cell 1
  simp only [List.getElem?_toArray, List.getElem?_cons_zero, List.getElem?_cons_succ] at s10 s11 s20 s21 s30 s31
  have hW : Hid ((((w.alloc (.cells #[.int .u8 0, .int .u8 0, .int .u8 0, .int .u8 0, .int .u8 0, .int .u8 0] 100)).alloc (.cells #[.int .u8 65, .int .u8 90] 87)).alloc (.cells #[.int .u8 97, .int .u8 122] 87)).alloc (.cells #[.int .u8 48, .int .u8 57] 87) = sp0 w) := Lib.hid rfl
  go_enter Try.func66, Try.ntmps66
  go_upto_region 10 with fail
  rw [hW.out]
  go_wp2_with (go_at_call 65; refine (show Calls Try.prog 65 #[.agg #[.int .u8 65, .int .u8 90]] (sp0 w) (fun e w' => e = .returned (.agg #[.int .u8 65, .int .u8 90, .int .u8 1, .int .u8 0, .int .u8 1, .int .u8 0]) ∧ Below (sp0 w).heap.size (sp0 w) w') from one_b ⟨65, 90⟩ hbr (Nat.le_refl _)).mono ?_; rintro e w6 ⟨rfl, HB⟩; obtain ⟨⟨z0, z1, z2, z3, z4, z5⟩, y0, y1, y2, y3, y4, y5⟩ := six_cells (sp0_res HB))
  all_goals
    obtain ⟨X, hX⟩ : ∃ X, set6 w6 w.heap.size (.int .u8 65) (.int .u8 90) (.int .u8 1) (.int .u8 0) (.int .u8 1) (.int .u8 0) = X := ⟨_, rfl⟩
    have hXb := set6_blk (a := .int .u8 65) (b := .int .u8 90) (c := .int .u8 1) (d := .int .u8 0) (e := .int .u8 1) (f := .int .u8 0) (sp0_res HB)
    have hXB : Below w.heap.size w X := by rw [← hX]; exact set6_below ((sp0_below w).trans (HB.mono (by rw [sp0_size]; omega))) (Nat.le_refl _) _ _ _ _ _ _
    rw [hX] at hXb
    unfold set6 at hX
    rw [hX]
    have hXBH := Lib.hid hXB
    obtain ⟨⟨q0, q1, q2, q3, q4, q5⟩, _⟩ := six_cells hXb
    clear hX hXb hXB
    exact bodyPost_ret (v := .tuple #[.agg #[.int .u8 65, .int .u8 90, .int .u8 1, .int .u8 0, .int .u8 1, .int .u8 0], .bool true]) (by simp [results, Try.f66, go_sem, q0, q1, q2, q3, q4, q5]) rfl ⟨hXBH.out, .inl ⟨_, rfl, rfl⟩⟩

set_option maxHeartbeats 1000000 in
set_option maxRecDepth 100000 in
theorem spans_lower (w : World) : Calls Try.prog 66 #[.string ⟨#[108, 111, 119, 101, 114]⟩] w (SpansR (lookW [108, 111, 119, 101, 114]) w) := by
  have hbr := Below.refl (sp0 w).heap.size (sp0 w)
  obtain ⟨⟨k0, k1, k2, k3, k4, k5⟩, f0, f1, f2, f3, f4, f5⟩ := six_cells (sp0_res hbr)
  have s10 := (sp0_1 hbr).cell 0
  have s11 := (sp0_1 hbr).cell 1
  have s20 := (sp0_2 hbr).cell 0
  have s21 := (sp0_2 hbr).cell 1
  have s30 := (sp0_3 hbr).cell 0
  have s31 := (sp0_3 hbr).cell 1
  simp only [List.getElem?_toArray, List.getElem?_cons_zero, List.getElem?_cons_succ] at s10 s11 s20 s21 s30 s31
  have hW : Hid ((((w.alloc (.cells #[.int .u8 0, .int .u8 0, .int .u8 0, .int .u8 0, .int .u8 0, .int .u8 0] 100)).alloc (.cells #[.int .u8 65, .int .u8 90] 87)).alloc (.cells #[.int .u8 97, .int .u8 122] 87)).alloc (.cells #[.int .u8 48, .int .u8 57] 87) = sp0 w) := Lib.hid rfl
  go_enter Try.func66, Try.ntmps66
  go_upto_region 12 with fail
  rw [hW.out]
  go_wp2_with (go_at_call 65; refine (show Calls Try.prog 65 #[.agg #[.int .u8 97, .int .u8 122]] (sp0 w) (fun e w' => e = .returned (.agg #[.int .u8 97, .int .u8 122, .int .u8 1, .int .u8 0, .int .u8 1, .int .u8 0]) ∧ Below (sp0 w).heap.size (sp0 w) w') from one_b ⟨97, 122⟩ hbr (Nat.le_refl _)).mono ?_; rintro e w6 ⟨rfl, HB⟩; obtain ⟨⟨z0, z1, z2, z3, z4, z5⟩, y0, y1, y2, y3, y4, y5⟩ := six_cells (sp0_res HB))
  all_goals
    obtain ⟨X, hX⟩ : ∃ X, set6 w6 w.heap.size (.int .u8 97) (.int .u8 122) (.int .u8 1) (.int .u8 0) (.int .u8 1) (.int .u8 0) = X := ⟨_, rfl⟩
    have hXb := set6_blk (a := .int .u8 97) (b := .int .u8 122) (c := .int .u8 1) (d := .int .u8 0) (e := .int .u8 1) (f := .int .u8 0) (sp0_res HB)
    have hXB : Below w.heap.size w X := by rw [← hX]; exact set6_below ((sp0_below w).trans (HB.mono (by rw [sp0_size]; omega))) (Nat.le_refl _) _ _ _ _ _ _
    rw [hX] at hXb
    unfold set6 at hX
    rw [hX]
    have hXBH := Lib.hid hXB
    obtain ⟨⟨q0, q1, q2, q3, q4, q5⟩, _⟩ := six_cells hXb
    clear hX hXb hXB
    exact bodyPost_ret (v := .tuple #[.agg #[.int .u8 97, .int .u8 122, .int .u8 1, .int .u8 0, .int .u8 1, .int .u8 0], .bool true]) (by simp [results, Try.f66, go_sem, q0, q1, q2, q3, q4, q5]) rfl ⟨hXBH.out, .inl ⟨_, rfl, rfl⟩⟩

set_option maxHeartbeats 1000000 in
set_option maxRecDepth 100000 in
theorem spans_space (w : World) : Calls Try.prog 66 #[.string ⟨#[115, 112, 97, 99, 101]⟩] w (SpansR (lookW [115, 112, 97, 99, 101]) w) := by
  have hbr := Below.refl (sp0 w).heap.size (sp0 w)
  obtain ⟨⟨k0, k1, k2, k3, k4, k5⟩, f0, f1, f2, f3, f4, f5⟩ := six_cells (sp0_res hbr)
  have s10 := (sp0_1 hbr).cell 0
  have s11 := (sp0_1 hbr).cell 1
  have s20 := (sp0_2 hbr).cell 0
  have s21 := (sp0_2 hbr).cell 1
  have s30 := (sp0_3 hbr).cell 0
  have s31 := (sp0_3 hbr).cell 1
  simp only [List.getElem?_toArray, List.getElem?_cons_zero, List.getElem?_cons_succ] at s10 s11 s20 s21 s30 s31
  have hW : Hid ((((w.alloc (.cells #[.int .u8 0, .int .u8 0, .int .u8 0, .int .u8 0, .int .u8 0, .int .u8 0] 100)).alloc (.cells #[.int .u8 65, .int .u8 90] 87)).alloc (.cells #[.int .u8 97, .int .u8 122] 87)).alloc (.cells #[.int .u8 48, .int .u8 57] 87) = sp0 w) := Lib.hid rfl
  go_enter Try.func66, Try.ntmps66
  go_upto_region 14 with fail
  rw [hW.out]
  go_wp2_with (go_at_call 67; refine (nothing_b hbr (Nat.le_refl _)).mono ?_; rintro e w6 ⟨rfl, HB⟩; obtain ⟨⟨z0, z1, z2, z3, z4, z5⟩, y0, y1, y2, y3, y4, y5⟩ := six_cells (sp0_res HB))
  all_goals
    obtain ⟨X, hX⟩ : ∃ X, set6 w6 w.heap.size (.int .u8 9) (.int .u8 13) (.int .u8 32) (.int .u8 32) (.int .u8 1) (.int .u8 0) = X := ⟨_, rfl⟩
    have hXb := set6_blk (a := .int .u8 9) (b := .int .u8 13) (c := .int .u8 32) (d := .int .u8 32) (e := .int .u8 1) (f := .int .u8 0) (sp0_res HB)
    have hXB : Below w.heap.size w X := by rw [← hX]; exact set6_below ((sp0_below w).trans (HB.mono (by rw [sp0_size]; omega))) (Nat.le_refl _) _ _ _ _ _ _
    rw [hX] at hXb
    unfold set6 at hX
    rw [hX]
    have hXBH := Lib.hid hXB
    obtain ⟨⟨q0, q1, q2, q3, q4, q5⟩, _⟩ := six_cells hXb
    clear hX hXb hXB
    exact bodyPost_ret (v := .tuple #[.agg #[.int .u8 9, .int .u8 13, .int .u8 32, .int .u8 32, .int .u8 1, .int .u8 0], .bool true]) (by simp [results, Try.f66, go_sem, q0, q1, q2, q3, q4, q5]) rfl ⟨hXBH.out, .inl ⟨_, rfl, rfl⟩⟩

theorem of_list {s : ByteArray} {l : List UInt8} (h : s.data.toList = l) : s = ⟨l.toArray⟩ := by
  cases s with
  | mk d => cases d with
    | mk x => exact congrArg (fun y : List UInt8 => (⟨y.toArray⟩ : ByteArray)) h
theorem lookW_none {l : List UInt8} (h : ∀ e ∈ clsTab, (e.1 == l) = false) : lookW l = none := by
  unfold lookW
  rw [find_none h]; rfl
set_option maxHeartbeats 1000000 in
set_option maxRecDepth 100000 in
theorem spans_any (s : ByteArray) (w : World) : Calls Try.prog 66 #[.string s] w (SpansR (lookW s.data.toList) w) := by
  by_cases h0 : s.data.toList = [97, 108, 112, 104, 97]
  · obtain rfl : s = ⟨#[97, 108, 112, 104, 97]⟩ := of_list h0
    exact spans_alpha w
  by_cases h1 : s.data.toList = [100, 105, 103, 105, 116]
  · obtain rfl : s = ⟨#[100, 105, 103, 105, 116]⟩ := of_list h1
    exact spans_digit w
  by_cases h2 : s.data.toList = [97, 108, 110, 117, 109]
  · obtain rfl : s = ⟨#[97, 108, 110, 117, 109]⟩ := of_list h2
    exact spans_alnum w
  by_cases h3 : s.data.toList = [117, 112, 112, 101, 114]
  · obtain rfl : s = ⟨#[117, 112, 112, 101, 114]⟩ := of_list h3
    exact spans_upper w
  by_cases h4 : s.data.toList = [108, 111, 119, 101, 114]
  · obtain rfl : s = ⟨#[108, 111, 119, 101, 114]⟩ := of_list h4
    exact spans_lower w
  by_cases h5 : s.data.toList = [115, 112, 97, 99, 101]
  · obtain rfl : s = ⟨#[115, 112, 97, 99, 101]⟩ := of_list h5
    exact spans_space w
  have hn : Hid (lookW s.data.toList = none) := Lib.hid (lookW_none (fun e he => by
    unfold clsTab at he
    simp only [List.mem_cons, List.not_mem_nil, or_false] at he
    rcases he with rfl | rfl | rfl | rfl | rfl | rfl <;> exact beq_eq_false_iff_ne.2 (fun e => by first | exact h0 e.symm | exact h1 e.symm | exact h2 e.symm | exact h3 e.symm | exact h4 e.symm | exact h5 e.symm)))
  rw [hn.out]
  have g0 : (s.toList == [97, 108, 112, 104, 97]) = false := beq_eq_false_iff_ne.2 (by rw [Lib.toList_data]; exact h0)
  have g1 : (s.toList == [100, 105, 103, 105, 116]) = false := beq_eq_false_iff_ne.2 (by rw [Lib.toList_data]; exact h1)
  have g2 : (s.toList == [97, 108, 110, 117, 109]) = false := beq_eq_false_iff_ne.2 (by rw [Lib.toList_data]; exact h2)
  have g3 : (s.toList == [117, 112, 112, 101, 114]) = false := beq_eq_false_iff_ne.2 (by rw [Lib.toList_data]; exact h3)
  have g4 : (s.toList == [108, 111, 119, 101, 114]) = false := beq_eq_false_iff_ne.2 (by rw [Lib.toList_data]; exact h4)
  have g5 : (s.toList == [115, 112, 97, 99, 101]) = false := beq_eq_false_iff_ne.2 (by rw [Lib.toList_data]; exact h5)
  clear h0 h1 h2 h3 h4 h5
  have hbr := Below.refl (sp0 w).heap.size (sp0 w)
  have HB := hbr
  obtain ⟨⟨k0, k1, k2, k3, k4, k5⟩, f0, f1, f2, f3, f4, f5⟩ := six_cells (sp0_res hbr)
  have hW : Hid ((((w.alloc (.cells #[.int .u8 0, .int .u8 0, .int .u8 0, .int .u8 0, .int .u8 0, .int .u8 0] 100)).alloc (.cells #[.int .u8 65, .int .u8 90] 87)).alloc (.cells #[.int .u8 97, .int .u8 122] 87)).alloc (.cells #[.int .u8 48, .int .u8 57] 87) = sp0 w) := Lib.hid rfl
  go_enter Try.func66, Try.ntmps66
  go_upto_region 15 with fail
  rw [hW.out]
  go_wp2_with fail
  obtain ⟨X, hX⟩ : ∃ X, set6 (sp0 w) w.heap.size (.int .u8 0) (.int .u8 0) (.int .u8 0) (.int .u8 0) (.int .u8 0) (.int .u8 0) = X := ⟨_, rfl⟩
  have hXb := set6_blk (a := .int .u8 0) (b := .int .u8 0) (c := .int .u8 0) (d := .int .u8 0) (e := .int .u8 0) (f := .int .u8 0) (sp0_res HB)
  have hXB : Below w.heap.size w X := by rw [← hX]; exact set6_below ((sp0_below w).trans (HB.mono (by rw [sp0_size]; omega))) (Nat.le_refl _) _ _ _ _ _ _
  rw [hX] at hXb
  unfold set6 at hX
  rw [hX]
  have hXBH := Lib.hid hXB
  obtain ⟨⟨q0, q1, q2, q3, q4, q5⟩, _⟩ := six_cells hXb
  clear hX hXb hXB
  exact bodyPost_ret (v := .tuple #[.agg #[.int .u8 0, .int .u8 0, .int .u8 0, .int .u8 0, .int .u8 0, .int .u8 0], .bool false]) (by simp [results, Try.f66, go_sem, q0, q1, q2, q3, q4, q5]) rfl ⟨hXBH.out, .inr ⟨rfl, rfl⟩⟩
end Go.Proofs.Ytlaidmjlgjpgcaa
