/- ArithChoices' walk. Condition: the numbers are of 64 bits. -/
import Derived.Test.YtjbmpockoicgmaaGreatNmX
namespace Go.Proofs.YtjbmpockoicgmaaGreat
open Go.RowKit Go.Shelf Go.PlainAid
set_option linter.unusedVariables false
set_option linter.unusedSimpArgs false
attribute [local go_sem] Oper.semAt_some
def cells3 (A B C : ByteArray) : Array Value := #[.string ⟨#[97]⟩, .string A, .bool false, .bool false, .bool false, .string ⟨#[98]⟩, .string B, .bool false, .bool false, .bool false, .string ⟨#[99]⟩, .string C, .bool false, .bool false, .bool false]
theorem flat3 (A B C : ByteArray) : (List.flatMap vrcs (three A B C)).toArray = #[.string ⟨#[97]⟩, .string A, .bool false, .bool false, .bool false, .string ⟨#[98]⟩, .string B, .bool false, .bool false, .bool false, .string ⟨#[99]⟩, .string C, .bool false, .bool false, .bool false] := rfl
theorem one_t (w : World) : Calls Tryz.prog 11 #[.bool true] w fun e w' => e = .returned (.int .i64 1) ∧ w' = w := by
  go_enter Tryz.func11, Tryz.ntmps11
  go_wp2
  go_ret
  exact ⟨rfl, rfl⟩
theorem one_f (w : World) : Calls Tryz.prog 11 #[.bool false] w fun e w' => e = .returned (.int .i64 0) ∧ w' = w := by
  go_enter Tryz.func11, Tryz.ntmps11
  go_wp2
  go_ret
  exact ⟨rfl, rfl⟩
set_option maxRecDepth 100000 in
set_option maxHeartbeats 1000000 in
theorem arithChoices_nn (a b c : Int) (w : World) (ra : Rg a) (rb : Rg b) (rc : Rg c) (ka : a ≠ 0) (kb : b ≠ 0) :
    Calls Tryz.prog 6 #[.int .i64 a, .int .i64 b, .int .i64 c] w fun e w' => e = .returned (.bool true) ∧ Below w.heap.size w w' := by
  have haw := Lib.hid (awake_c w)
  have hdd := Lib.hid (fun (x : Int) (hx : Rg x) (W : World) => decimal_any x hx W)
  have e1 := ev_cho ra rb rc
  have e2 := ev_ands ra rb rc
  have e3 := ev_ors ra rb rc
  have e4 := ev_nots ra rb rc
  rw [if_pos ka] at e1
  rw [decide_eq_true ⟨ka, kb⟩, show (oneI true).1 = 1 from rfl] at e2
  rw [decide_eq_true (.inl ka), show (oneI true).1 = 1 from rfl] at e3
  rw [decide_eq_false ka, show (oneI false).1 = 0 from rfl] at e4
  have sa := decT_size ra
  have sb := decT_size rb
  have sc := decT_size rc
  have hev := Lib.hid (fun (L : List Vr) (hl : L.length ≤ 1000) (hz : ∀ v ∈ L, v.name.size ≤ 1000 ∧ v.val.size ≤ 1000) (w : World) (g : Nat) (hb : Blk w g 32 (L.flatMap vrcs).toArray) (s : ByteArray) (n e : Int) (S : List (ByteArray × I64)) (hv : evalM s L = (n, S, e)) (hs : s.size ≤ 100000) (W : World) (hbel : Below w.heap.size w W) => ev_in hb hl hz hs hv W hbel)
  obtain ⟨EV, hEV⟩ : ∃ EV, evalM = EV := ⟨_, rfl⟩
  rw [hEV] at e1 e2 e3 e4 hev
  clear hEV
  obtain ⟨D, hD⟩ : ∃ D, decT = D := ⟨_, rfl⟩
  rw [hD] at sa sb sc e1 e2 e3 e4 hdd
  clear hD
  have mx : (mkI b).1 = b := mk_of rb
  obtain ⟨MX, hMX⟩ : ∃ M, mkI b = M := ⟨_, rfl⟩
  rw [hMX] at mx e1
  have hz : ∀ v ∈ three (D a) (D b) (D c), v.name.size ≤ 1000 ∧ v.val.size ≤ 1000 := fun v hv => by
    rcases List.mem_cons.1 hv with rfl | hv
    · exact ⟨show 1 ≤ 1000 by omega, Nat.le_trans sa (by omega)⟩
    rcases List.mem_cons.1 hv with rfl | hv
    · exact ⟨show 1 ≤ 1000 by omega, Nat.le_trans sb (by omega)⟩
    · obtain rfl := List.mem_singleton.1 hv
      exact ⟨show 1 ≤ 1000 by omega, Nat.le_trans sc (by omega)⟩
  have hzH := Lib.hid hz
  clear hz sa sb sc
  have qa : (a == 0) = false := beq_eq_false_iff_ne.2 ka
  have qa2 : (a != 0) = true := bne_iff_ne.2 ka
  have qb2 : (b != 0) = true := bne_iff_ne.2 kb
  have qb : (b == 0) = false := beq_eq_false_iff_ne.2 kb
  clear ka kb
  go_enter Tryz.func6, Tryz.ntmps6
  go_upto_region 4 with (first | (go_at_call 7; refine haw.out.mono ?_; rintro e w1 ⟨rfl, hb1⟩; have hb1H := Lib.hid hb1; clear hb1) | (go_at_call 10; refine (hdd.out _ (by assumption) _).mono ?_; rintro e w2 ⟨rfl, hb2⟩; have hb2H := Lib.hid hb2; clear hb2))
  rename_i w2a hb2aH w2b hb2bH _ _
  have hsz := hb1H.out.size
  have hsza := hb2aH.out.size
  have hszb := hb2bH.out.size
  have hbl := Blk.new w2 32 (cells3 (D a) (D b) (D c))
  have hbn := Lib.hid ((hb1H.out.trans (hb2aH.out.mono hsz)).trans ((hb2bH.out.mono (Nat.le_trans hsz hsza)).trans ((hb2H.out.mono (Nat.le_trans hsz (Nat.le_trans hsza hszb))).trans ((alB w2 (.cells (cells3 (D a) (D b) (D c)) 32)).mono (Nat.le_trans hsz (Nat.le_trans hsza (Nat.le_trans hszb hb2H.out.size)))))))
  unfold cells3 at hbl hbn
  clear hsz hsza hszb
  obtain ⟨G, hG⟩ : ∃ G, w2.heap.size = G := ⟨_, rfl⟩
  rw [hG] at hbl
  rw [hG]
  obtain ⟨w3, hw3⟩ : ∃ w3, w2.alloc (.cells #[.string ⟨#[97]⟩, .string (D a), .bool false, .bool false, .bool false, .string ⟨#[98]⟩, .string (D b), .bool false, .bool false, .bool false, .string ⟨#[99]⟩, .string (D c), .bool false, .bool false, .bool false] 32) = w3 := ⟨_, rfl⟩
  rw [hw3] at hbl hbn
  rw [hw3]
  have hE := Lib.hid (hev.out (three (D a) (D b) (D c)) (by show 3 ≤ 1000; omega) hzH.out w3 G (by rw [flat3]; exact hbl))
  clear hev hbl hw3 hG
  have hcur := Lib.hid (Below.refl w3.heap.size w3)
  go_upto_region 8 with (go_at_call 8; refine (hE.out _ _ _ _ e1 (by decide) _ hcur.out).mono ?_; rintro r w4 ⟨sv, rfl, hrow, hb⟩; obtain ⟨a1, c1, rfl, _, hcell⟩ := set_of_row hrow; obtain ⟨g1, rfl, hg1⟩ := hcell (by simp); have hcur4 := Lib.hid (hcur.out.trans (hb.mono hcur.out.size)); have hg1H := Lib.hid hg1; clear hrow hb hcell hg1)
  have p0 : w4.cell? ⟨g1, 0, none⟩ = some (.string ⟨#[120]⟩) := (hg1H.out 0 _ rfl).1
  have p1 : w4.cell? ⟨g1, 1, none⟩ = some (.int .i64 MX.1) := (hg1H.out 0 _ rfl).2
  rw [mx] at p1
  have hbx := Blk.new w4 37 #[.string ⟨#[120]⟩, .int .i64 b]
  have hb5 := alB w4 (.cells #[.string ⟨#[120]⟩, .int .i64 b] 37)
  have hcur5 := Lib.hid (hcur4.out.trans (hb5.mono hcur4.out.size))
  obtain ⟨X, hX⟩ : ∃ X, w4.heap.size = X := ⟨_, rfl⟩
  rw [hX] at hbx
  rw [hX]
  obtain ⟨w5, hw5⟩ : ∃ w5, w4.alloc (.cells #[.string ⟨#[120]⟩, .int .i64 b] 37) = w5 := ⟨_, rfl⟩
  rw [hw5] at hbx hb5 hcur5
  rw [hw5]
  have u0 := Lib.hid ((hb5.cell (block_of_cell p0)).trans p0)
  have u1 := Lib.hid ((hb5.cell (block_of_cell p1)).trans p1)
  have hbxH := Lib.hid hbx
  clear hX hw5 hb5 p0 p1 hg1H hbx
  go_wp2_with (first
    | (go_at_call 8; refine (hE.out _ _ _ _ e4 (by decide) _ hcur7.out).mono ?_; rintro r w8 ⟨sv, rfl, hrow, hb⟩; obtain ⟨a4, c4, rfl⟩ := row_ge0 hrow; have hcur8 := Lib.hid (hcur7.out.trans (hb.mono hcur7.out.size)); have hb58 := hb57.out.trans (hb.mono hb57.out.size); have m0 : w8.cell? ⟨X, 0, none⟩ = some (.string ⟨#[120]⟩) := (blk_beneath hbxH.out hb58).cell 0; have m1 : w8.cell? ⟨X, 1, none⟩ = some (.int .i64 b) := (blk_beneath hbxH.out hb58).cell 1; have n0 := (hb58.cell (block_of_cell u0.out)).trans u0.out; have n1 := (hb58.cell (block_of_cell u1.out)).trans u1.out; clear hrow hb hb58)
    | (go_at_call 8; refine (hE.out _ _ _ _ e3 (by decide) _ hcur6.out).mono ?_; rintro r w7 ⟨sv, rfl, hrow, hb⟩; obtain ⟨a3, c3, rfl⟩ := row_ge0 hrow; have hcur7 := Lib.hid (hcur6.out.trans (hb.mono hcur6.out.size)); have hb57 := Lib.hid (hb56.out.trans (hb.mono hb56.out.size)); clear hrow hb)
    | (go_at_call 8; refine (hE.out _ _ _ _ e2 (by decide) _ hcur5.out).mono ?_; rintro r w6 ⟨sv, rfl, hrow, hb⟩; obtain ⟨a2, c2, rfl⟩ := row_ge0 hrow; have hcur6 := Lib.hid (hcur5.out.trans (hb.mono hcur5.out.size)); have hb56 := Lib.hid hb; clear hrow hb))
  dsimp only [List.append, HAppend.hAppend, Append.append]
  go_quiet ((go_at_call 11; first | exact Calls.quiet_of_same (one_t _) | exact Calls.quiet_of_same (one_f _)))
  go_wp2
  go_ret
  exact ⟨rfl, (hbn.out.trans (hcur8.out.mono hbn.out.size)).trans ((I.belDN _ _).mono (by have := hbn.out.size; have := hcur8.out.size; omega))⟩
set_option maxRecDepth 100000 in
set_option maxHeartbeats 1000000 in
theorem arithChoices_nz (a b c : Int) (w : World) (ra : Rg a) (rb : Rg b) (rc : Rg c) (ka : a ≠ 0) (kb : b = 0) :
    Calls Tryz.prog 6 #[.int .i64 a, .int .i64 b, .int .i64 c] w fun e w' => e = .returned (.bool true) ∧ Below w.heap.size w w' := by
  have haw := Lib.hid (awake_c w)
  have hdd := Lib.hid (fun (x : Int) (hx : Rg x) (W : World) => decimal_any x hx W)
  have e1 := ev_cho ra rb rc
  have e2 := ev_ands ra rb rc
  have e3 := ev_ors ra rb rc
  have e4 := ev_nots ra rb rc
  rw [if_pos ka] at e1
  rw [decide_eq_false (fun k => k.2 kb), show (oneI false).1 = 0 from rfl] at e2
  rw [decide_eq_true (.inl ka), show (oneI true).1 = 1 from rfl] at e3
  rw [decide_eq_false ka, show (oneI false).1 = 0 from rfl] at e4
  have sa := decT_size ra
  have sb := decT_size rb
  have sc := decT_size rc
  have hev := Lib.hid (fun (L : List Vr) (hl : L.length ≤ 1000) (hz : ∀ v ∈ L, v.name.size ≤ 1000 ∧ v.val.size ≤ 1000) (w : World) (g : Nat) (hb : Blk w g 32 (L.flatMap vrcs).toArray) (s : ByteArray) (n e : Int) (S : List (ByteArray × I64)) (hv : evalM s L = (n, S, e)) (hs : s.size ≤ 100000) (W : World) (hbel : Below w.heap.size w W) => ev_in hb hl hz hs hv W hbel)
  obtain ⟨EV, hEV⟩ : ∃ EV, evalM = EV := ⟨_, rfl⟩
  rw [hEV] at e1 e2 e3 e4 hev
  clear hEV
  obtain ⟨D, hD⟩ : ∃ D, decT = D := ⟨_, rfl⟩
  rw [hD] at sa sb sc e1 e2 e3 e4 hdd
  clear hD
  have mx : (mkI b).1 = b := mk_of rb
  obtain ⟨MX, hMX⟩ : ∃ M, mkI b = M := ⟨_, rfl⟩
  rw [hMX] at mx e1
  have hz : ∀ v ∈ three (D a) (D b) (D c), v.name.size ≤ 1000 ∧ v.val.size ≤ 1000 := fun v hv => by
    rcases List.mem_cons.1 hv with rfl | hv
    · exact ⟨show 1 ≤ 1000 by omega, Nat.le_trans sa (by omega)⟩
    rcases List.mem_cons.1 hv with rfl | hv
    · exact ⟨show 1 ≤ 1000 by omega, Nat.le_trans sb (by omega)⟩
    · obtain rfl := List.mem_singleton.1 hv
      exact ⟨show 1 ≤ 1000 by omega, Nat.le_trans sc (by omega)⟩
  have hzH := Lib.hid hz
  clear hz sa sb sc
  have qa : (a == 0) = false := beq_eq_false_iff_ne.2 ka
  have qa2 : (a != 0) = true := bne_iff_ne.2 ka
  have qb2 : (b != 0) = false := by rw [kb]; rfl
  have qb : (b == 0) = true := beq_iff_eq.2 kb
  clear ka kb
  go_enter Tryz.func6, Tryz.ntmps6
  go_upto_region 4 with (first | (go_at_call 7; refine haw.out.mono ?_; rintro e w1 ⟨rfl, hb1⟩; have hb1H := Lib.hid hb1; clear hb1) | (go_at_call 10; refine (hdd.out _ (by assumption) _).mono ?_; rintro e w2 ⟨rfl, hb2⟩; have hb2H := Lib.hid hb2; clear hb2))
  rename_i w2a hb2aH w2b hb2bH _ _
  have hsz := hb1H.out.size
  have hsza := hb2aH.out.size
  have hszb := hb2bH.out.size
  have hbl := Blk.new w2 32 (cells3 (D a) (D b) (D c))
  have hbn := Lib.hid ((hb1H.out.trans (hb2aH.out.mono hsz)).trans ((hb2bH.out.mono (Nat.le_trans hsz hsza)).trans ((hb2H.out.mono (Nat.le_trans hsz (Nat.le_trans hsza hszb))).trans ((alB w2 (.cells (cells3 (D a) (D b) (D c)) 32)).mono (Nat.le_trans hsz (Nat.le_trans hsza (Nat.le_trans hszb hb2H.out.size)))))))
  unfold cells3 at hbl hbn
  clear hsz hsza hszb
  obtain ⟨G, hG⟩ : ∃ G, w2.heap.size = G := ⟨_, rfl⟩
  rw [hG] at hbl
  rw [hG]
  obtain ⟨w3, hw3⟩ : ∃ w3, w2.alloc (.cells #[.string ⟨#[97]⟩, .string (D a), .bool false, .bool false, .bool false, .string ⟨#[98]⟩, .string (D b), .bool false, .bool false, .bool false, .string ⟨#[99]⟩, .string (D c), .bool false, .bool false, .bool false] 32) = w3 := ⟨_, rfl⟩
  rw [hw3] at hbl hbn
  rw [hw3]
  have hE := Lib.hid (hev.out (three (D a) (D b) (D c)) (by show 3 ≤ 1000; omega) hzH.out w3 G (by rw [flat3]; exact hbl))
  clear hev hbl hw3 hG
  have hcur := Lib.hid (Below.refl w3.heap.size w3)
  go_upto_region 8 with (go_at_call 8; refine (hE.out _ _ _ _ e1 (by decide) _ hcur.out).mono ?_; rintro r w4 ⟨sv, rfl, hrow, hb⟩; obtain ⟨a1, c1, rfl, _, hcell⟩ := set_of_row hrow; obtain ⟨g1, rfl, hg1⟩ := hcell (by simp); have hcur4 := Lib.hid (hcur.out.trans (hb.mono hcur.out.size)); have hg1H := Lib.hid hg1; clear hrow hb hcell hg1)
  have p0 : w4.cell? ⟨g1, 0, none⟩ = some (.string ⟨#[120]⟩) := (hg1H.out 0 _ rfl).1
  have p1 : w4.cell? ⟨g1, 1, none⟩ = some (.int .i64 MX.1) := (hg1H.out 0 _ rfl).2
  rw [mx] at p1
  have hbx := Blk.new w4 37 #[.string ⟨#[120]⟩, .int .i64 b]
  have hb5 := alB w4 (.cells #[.string ⟨#[120]⟩, .int .i64 b] 37)
  have hcur5 := Lib.hid (hcur4.out.trans (hb5.mono hcur4.out.size))
  obtain ⟨X, hX⟩ : ∃ X, w4.heap.size = X := ⟨_, rfl⟩
  rw [hX] at hbx
  rw [hX]
  obtain ⟨w5, hw5⟩ : ∃ w5, w4.alloc (.cells #[.string ⟨#[120]⟩, .int .i64 b] 37) = w5 := ⟨_, rfl⟩
  rw [hw5] at hbx hb5 hcur5
  rw [hw5]
  have u0 := Lib.hid ((hb5.cell (block_of_cell p0)).trans p0)
  have u1 := Lib.hid ((hb5.cell (block_of_cell p1)).trans p1)
  have hbxH := Lib.hid hbx
  clear hX hw5 hb5 p0 p1 hg1H hbx
  go_wp2_with (first
    | (go_at_call 8; refine (hE.out _ _ _ _ e4 (by decide) _ hcur7.out).mono ?_; rintro r w8 ⟨sv, rfl, hrow, hb⟩; obtain ⟨a4, c4, rfl⟩ := row_ge0 hrow; have hcur8 := Lib.hid (hcur7.out.trans (hb.mono hcur7.out.size)); have hb58 := hb57.out.trans (hb.mono hb57.out.size); have m0 : w8.cell? ⟨X, 0, none⟩ = some (.string ⟨#[120]⟩) := (blk_beneath hbxH.out hb58).cell 0; have m1 : w8.cell? ⟨X, 1, none⟩ = some (.int .i64 b) := (blk_beneath hbxH.out hb58).cell 1; have n0 := (hb58.cell (block_of_cell u0.out)).trans u0.out; have n1 := (hb58.cell (block_of_cell u1.out)).trans u1.out; clear hrow hb hb58)
    | (go_at_call 8; refine (hE.out _ _ _ _ e3 (by decide) _ hcur6.out).mono ?_; rintro r w7 ⟨sv, rfl, hrow, hb⟩; obtain ⟨a3, c3, rfl⟩ := row_ge0 hrow; have hcur7 := Lib.hid (hcur6.out.trans (hb.mono hcur6.out.size)); have hb57 := Lib.hid (hb56.out.trans (hb.mono hb56.out.size)); clear hrow hb)
    | (go_at_call 8; refine (hE.out _ _ _ _ e2 (by decide) _ hcur5.out).mono ?_; rintro r w6 ⟨sv, rfl, hrow, hb⟩; obtain ⟨a2, c2, rfl⟩ := row_ge0 hrow; have hcur6 := Lib.hid (hcur5.out.trans (hb.mono hcur5.out.size)); have hb56 := Lib.hid hb; clear hrow hb))
  dsimp only [List.append, HAppend.hAppend, Append.append]
  go_quiet ((go_at_call 11; first | exact Calls.quiet_of_same (one_t _) | exact Calls.quiet_of_same (one_f _)))
  go_wp2
  go_ret
  exact ⟨rfl, (hbn.out.trans (hcur8.out.mono hbn.out.size)).trans ((I.belDN _ _).mono (by have := hbn.out.size; have := hcur8.out.size; omega))⟩
set_option maxRecDepth 100000 in
set_option maxHeartbeats 1000000 in
theorem arithChoices_zn (a b c : Int) (w : World) (ra : Rg a) (rb : Rg b) (rc : Rg c) (ka : a = 0) (kb : b ≠ 0) :
    Calls Tryz.prog 6 #[.int .i64 a, .int .i64 b, .int .i64 c] w fun e w' => e = .returned (.bool true) ∧ Below w.heap.size w w' := by
  have haw := Lib.hid (awake_c w)
  have hdd := Lib.hid (fun (x : Int) (hx : Rg x) (W : World) => decimal_any x hx W)
  have e1 := ev_cho ra rb rc
  have e2 := ev_ands ra rb rc
  have e3 := ev_ors ra rb rc
  have e4 := ev_nots ra rb rc
  rw [if_neg (fun k => k ka)] at e1
  rw [decide_eq_false (fun k => k.1 ka), show (oneI false).1 = 0 from rfl] at e2
  rw [decide_eq_true (.inr kb), show (oneI true).1 = 1 from rfl] at e3
  rw [decide_eq_true ka, show (oneI true).1 = 1 from rfl] at e4
  have sa := decT_size ra
  have sb := decT_size rb
  have sc := decT_size rc
  have hev := Lib.hid (fun (L : List Vr) (hl : L.length ≤ 1000) (hz : ∀ v ∈ L, v.name.size ≤ 1000 ∧ v.val.size ≤ 1000) (w : World) (g : Nat) (hb : Blk w g 32 (L.flatMap vrcs).toArray) (s : ByteArray) (n e : Int) (S : List (ByteArray × I64)) (hv : evalM s L = (n, S, e)) (hs : s.size ≤ 100000) (W : World) (hbel : Below w.heap.size w W) => ev_in hb hl hz hs hv W hbel)
  obtain ⟨EV, hEV⟩ : ∃ EV, evalM = EV := ⟨_, rfl⟩
  rw [hEV] at e1 e2 e3 e4 hev
  clear hEV
  obtain ⟨D, hD⟩ : ∃ D, decT = D := ⟨_, rfl⟩
  rw [hD] at sa sb sc e1 e2 e3 e4 hdd
  clear hD
  have mx : (mkI c).1 = c := mk_of rc
  obtain ⟨MX, hMX⟩ : ∃ M, mkI c = M := ⟨_, rfl⟩
  rw [hMX] at mx e1
  have hz : ∀ v ∈ three (D a) (D b) (D c), v.name.size ≤ 1000 ∧ v.val.size ≤ 1000 := fun v hv => by
    rcases List.mem_cons.1 hv with rfl | hv
    · exact ⟨show 1 ≤ 1000 by omega, Nat.le_trans sa (by omega)⟩
    rcases List.mem_cons.1 hv with rfl | hv
    · exact ⟨show 1 ≤ 1000 by omega, Nat.le_trans sb (by omega)⟩
    · obtain rfl := List.mem_singleton.1 hv
      exact ⟨show 1 ≤ 1000 by omega, Nat.le_trans sc (by omega)⟩
  have hzH := Lib.hid hz
  clear hz sa sb sc
  have qa : (a == 0) = true := beq_iff_eq.2 ka
  have qa2 : (a != 0) = false := by rw [ka]; rfl
  have qb2 : (b != 0) = true := bne_iff_ne.2 kb
  have qb : (b == 0) = false := beq_eq_false_iff_ne.2 kb
  clear ka kb
  go_enter Tryz.func6, Tryz.ntmps6
  go_upto_region 4 with (first | (go_at_call 7; refine haw.out.mono ?_; rintro e w1 ⟨rfl, hb1⟩; have hb1H := Lib.hid hb1; clear hb1) | (go_at_call 10; refine (hdd.out _ (by assumption) _).mono ?_; rintro e w2 ⟨rfl, hb2⟩; have hb2H := Lib.hid hb2; clear hb2))
  rename_i w2a hb2aH w2b hb2bH _ _
  have hsz := hb1H.out.size
  have hsza := hb2aH.out.size
  have hszb := hb2bH.out.size
  have hbl := Blk.new w2 32 (cells3 (D a) (D b) (D c))
  have hbn := Lib.hid ((hb1H.out.trans (hb2aH.out.mono hsz)).trans ((hb2bH.out.mono (Nat.le_trans hsz hsza)).trans ((hb2H.out.mono (Nat.le_trans hsz (Nat.le_trans hsza hszb))).trans ((alB w2 (.cells (cells3 (D a) (D b) (D c)) 32)).mono (Nat.le_trans hsz (Nat.le_trans hsza (Nat.le_trans hszb hb2H.out.size)))))))
  unfold cells3 at hbl hbn
  clear hsz hsza hszb
  obtain ⟨G, hG⟩ : ∃ G, w2.heap.size = G := ⟨_, rfl⟩
  rw [hG] at hbl
  rw [hG]
  obtain ⟨w3, hw3⟩ : ∃ w3, w2.alloc (.cells #[.string ⟨#[97]⟩, .string (D a), .bool false, .bool false, .bool false, .string ⟨#[98]⟩, .string (D b), .bool false, .bool false, .bool false, .string ⟨#[99]⟩, .string (D c), .bool false, .bool false, .bool false] 32) = w3 := ⟨_, rfl⟩
  rw [hw3] at hbl hbn
  rw [hw3]
  have hE := Lib.hid (hev.out (three (D a) (D b) (D c)) (by show 3 ≤ 1000; omega) hzH.out w3 G (by rw [flat3]; exact hbl))
  clear hev hbl hw3 hG
  have hcur := Lib.hid (Below.refl w3.heap.size w3)
  go_upto_region 8 with (go_at_call 8; refine (hE.out _ _ _ _ e1 (by decide) _ hcur.out).mono ?_; rintro r w4 ⟨sv, rfl, hrow, hb⟩; obtain ⟨a1, c1, rfl, _, hcell⟩ := set_of_row hrow; obtain ⟨g1, rfl, hg1⟩ := hcell (by simp); have hcur4 := Lib.hid (hcur.out.trans (hb.mono hcur.out.size)); have hg1H := Lib.hid hg1; clear hrow hb hcell hg1)
  have p0 : w4.cell? ⟨g1, 0, none⟩ = some (.string ⟨#[121]⟩) := (hg1H.out 0 _ rfl).1
  have p1 : w4.cell? ⟨g1, 1, none⟩ = some (.int .i64 MX.1) := (hg1H.out 0 _ rfl).2
  rw [mx] at p1
  have hbx := Blk.new w4 37 #[.string ⟨#[121]⟩, .int .i64 c]
  have hb5 := alB w4 (.cells #[.string ⟨#[121]⟩, .int .i64 c] 37)
  have hcur5 := Lib.hid (hcur4.out.trans (hb5.mono hcur4.out.size))
  obtain ⟨X, hX⟩ : ∃ X, w4.heap.size = X := ⟨_, rfl⟩
  rw [hX] at hbx
  rw [hX]
  obtain ⟨w5, hw5⟩ : ∃ w5, w4.alloc (.cells #[.string ⟨#[121]⟩, .int .i64 c] 37) = w5 := ⟨_, rfl⟩
  rw [hw5] at hbx hb5 hcur5
  rw [hw5]
  have u0 := Lib.hid ((hb5.cell (block_of_cell p0)).trans p0)
  have u1 := Lib.hid ((hb5.cell (block_of_cell p1)).trans p1)
  have hbxH := Lib.hid hbx
  clear hX hw5 hb5 p0 p1 hg1H hbx
  go_wp2_with (first
    | (go_at_call 8; refine (hE.out _ _ _ _ e4 (by decide) _ hcur7.out).mono ?_; rintro r w8 ⟨sv, rfl, hrow, hb⟩; obtain ⟨a4, c4, rfl⟩ := row_ge0 hrow; have hcur8 := Lib.hid (hcur7.out.trans (hb.mono hcur7.out.size)); have hb58 := hb57.out.trans (hb.mono hb57.out.size); have m0 : w8.cell? ⟨X, 0, none⟩ = some (.string ⟨#[121]⟩) := (blk_beneath hbxH.out hb58).cell 0; have m1 : w8.cell? ⟨X, 1, none⟩ = some (.int .i64 c) := (blk_beneath hbxH.out hb58).cell 1; have n0 := (hb58.cell (block_of_cell u0.out)).trans u0.out; have n1 := (hb58.cell (block_of_cell u1.out)).trans u1.out; clear hrow hb hb58)
    | (go_at_call 8; refine (hE.out _ _ _ _ e3 (by decide) _ hcur6.out).mono ?_; rintro r w7 ⟨sv, rfl, hrow, hb⟩; obtain ⟨a3, c3, rfl⟩ := row_ge0 hrow; have hcur7 := Lib.hid (hcur6.out.trans (hb.mono hcur6.out.size)); have hb57 := Lib.hid (hb56.out.trans (hb.mono hb56.out.size)); clear hrow hb)
    | (go_at_call 8; refine (hE.out _ _ _ _ e2 (by decide) _ hcur5.out).mono ?_; rintro r w6 ⟨sv, rfl, hrow, hb⟩; obtain ⟨a2, c2, rfl⟩ := row_ge0 hrow; have hcur6 := Lib.hid (hcur5.out.trans (hb.mono hcur5.out.size)); have hb56 := Lib.hid hb; clear hrow hb))
  dsimp only [List.append, HAppend.hAppend, Append.append]
  go_quiet ((go_at_call 11; first | exact Calls.quiet_of_same (one_t _) | exact Calls.quiet_of_same (one_f _)))
  go_wp2
  go_ret
  exact ⟨rfl, (hbn.out.trans (hcur8.out.mono hbn.out.size)).trans ((I.belDN _ _).mono (by have := hbn.out.size; have := hcur8.out.size; omega))⟩
set_option maxRecDepth 100000 in
set_option maxHeartbeats 1000000 in
theorem arithChoices_zz (a b c : Int) (w : World) (ra : Rg a) (rb : Rg b) (rc : Rg c) (ka : a = 0) (kb : b = 0) :
    Calls Tryz.prog 6 #[.int .i64 a, .int .i64 b, .int .i64 c] w fun e w' => e = .returned (.bool true) ∧ Below w.heap.size w w' := by
  have haw := Lib.hid (awake_c w)
  have hdd := Lib.hid (fun (x : Int) (hx : Rg x) (W : World) => decimal_any x hx W)
  have e1 := ev_cho ra rb rc
  have e2 := ev_ands ra rb rc
  have e3 := ev_ors ra rb rc
  have e4 := ev_nots ra rb rc
  rw [if_neg (fun k => k ka)] at e1
  rw [decide_eq_false (fun k => k.1 ka), show (oneI false).1 = 0 from rfl] at e2
  rw [decide_eq_false (fun k => k.elim (fun k => k ka) (fun k => k kb)), show (oneI false).1 = 0 from rfl] at e3
  rw [decide_eq_true ka, show (oneI true).1 = 1 from rfl] at e4
  have sa := decT_size ra
  have sb := decT_size rb
  have sc := decT_size rc
  have hev := Lib.hid (fun (L : List Vr) (hl : L.length ≤ 1000) (hz : ∀ v ∈ L, v.name.size ≤ 1000 ∧ v.val.size ≤ 1000) (w : World) (g : Nat) (hb : Blk w g 32 (L.flatMap vrcs).toArray) (s : ByteArray) (n e : Int) (S : List (ByteArray × I64)) (hv : evalM s L = (n, S, e)) (hs : s.size ≤ 100000) (W : World) (hbel : Below w.heap.size w W) => ev_in hb hl hz hs hv W hbel)
  obtain ⟨EV, hEV⟩ : ∃ EV, evalM = EV := ⟨_, rfl⟩
  rw [hEV] at e1 e2 e3 e4 hev
  clear hEV
  obtain ⟨D, hD⟩ : ∃ D, decT = D := ⟨_, rfl⟩
  rw [hD] at sa sb sc e1 e2 e3 e4 hdd
  clear hD
  have mx : (mkI c).1 = c := mk_of rc
  obtain ⟨MX, hMX⟩ : ∃ M, mkI c = M := ⟨_, rfl⟩
  rw [hMX] at mx e1
  have hz : ∀ v ∈ three (D a) (D b) (D c), v.name.size ≤ 1000 ∧ v.val.size ≤ 1000 := fun v hv => by
    rcases List.mem_cons.1 hv with rfl | hv
    · exact ⟨show 1 ≤ 1000 by omega, Nat.le_trans sa (by omega)⟩
    rcases List.mem_cons.1 hv with rfl | hv
    · exact ⟨show 1 ≤ 1000 by omega, Nat.le_trans sb (by omega)⟩
    · obtain rfl := List.mem_singleton.1 hv
      exact ⟨show 1 ≤ 1000 by omega, Nat.le_trans sc (by omega)⟩
  have hzH := Lib.hid hz
  clear hz sa sb sc
  have qa : (a == 0) = true := beq_iff_eq.2 ka
  have qa2 : (a != 0) = false := by rw [ka]; rfl
  have qb2 : (b != 0) = false := by rw [kb]; rfl
  have qb : (b == 0) = true := beq_iff_eq.2 kb
  clear ka kb
  go_enter Tryz.func6, Tryz.ntmps6
  go_upto_region 4 with (first | (go_at_call 7; refine haw.out.mono ?_; rintro e w1 ⟨rfl, hb1⟩; have hb1H := Lib.hid hb1; clear hb1) | (go_at_call 10; refine (hdd.out _ (by assumption) _).mono ?_; rintro e w2 ⟨rfl, hb2⟩; have hb2H := Lib.hid hb2; clear hb2))
  rename_i w2a hb2aH w2b hb2bH _ _
  have hsz := hb1H.out.size
  have hsza := hb2aH.out.size
  have hszb := hb2bH.out.size
  have hbl := Blk.new w2 32 (cells3 (D a) (D b) (D c))
  have hbn := Lib.hid ((hb1H.out.trans (hb2aH.out.mono hsz)).trans ((hb2bH.out.mono (Nat.le_trans hsz hsza)).trans ((hb2H.out.mono (Nat.le_trans hsz (Nat.le_trans hsza hszb))).trans ((alB w2 (.cells (cells3 (D a) (D b) (D c)) 32)).mono (Nat.le_trans hsz (Nat.le_trans hsza (Nat.le_trans hszb hb2H.out.size)))))))
  unfold cells3 at hbl hbn
  clear hsz hsza hszb
  obtain ⟨G, hG⟩ : ∃ G, w2.heap.size = G := ⟨_, rfl⟩
  rw [hG] at hbl
  rw [hG]
  obtain ⟨w3, hw3⟩ : ∃ w3, w2.alloc (.cells #[.string ⟨#[97]⟩, .string (D a), .bool false, .bool false, .bool false, .string ⟨#[98]⟩, .string (D b), .bool false, .bool false, .bool false, .string ⟨#[99]⟩, .string (D c), .bool false, .bool false, .bool false] 32) = w3 := ⟨_, rfl⟩
  rw [hw3] at hbl hbn
  rw [hw3]
  have hE := Lib.hid (hev.out (three (D a) (D b) (D c)) (by show 3 ≤ 1000; omega) hzH.out w3 G (by rw [flat3]; exact hbl))
  clear hev hbl hw3 hG
  have hcur := Lib.hid (Below.refl w3.heap.size w3)
  go_upto_region 8 with (go_at_call 8; refine (hE.out _ _ _ _ e1 (by decide) _ hcur.out).mono ?_; rintro r w4 ⟨sv, rfl, hrow, hb⟩; obtain ⟨a1, c1, rfl, _, hcell⟩ := set_of_row hrow; obtain ⟨g1, rfl, hg1⟩ := hcell (by simp); have hcur4 := Lib.hid (hcur.out.trans (hb.mono hcur.out.size)); have hg1H := Lib.hid hg1; clear hrow hb hcell hg1)
  have p0 : w4.cell? ⟨g1, 0, none⟩ = some (.string ⟨#[121]⟩) := (hg1H.out 0 _ rfl).1
  have p1 : w4.cell? ⟨g1, 1, none⟩ = some (.int .i64 MX.1) := (hg1H.out 0 _ rfl).2
  rw [mx] at p1
  have hbx := Blk.new w4 37 #[.string ⟨#[121]⟩, .int .i64 c]
  have hb5 := alB w4 (.cells #[.string ⟨#[121]⟩, .int .i64 c] 37)
  have hcur5 := Lib.hid (hcur4.out.trans (hb5.mono hcur4.out.size))
  obtain ⟨X, hX⟩ : ∃ X, w4.heap.size = X := ⟨_, rfl⟩
  rw [hX] at hbx
  rw [hX]
  obtain ⟨w5, hw5⟩ : ∃ w5, w4.alloc (.cells #[.string ⟨#[121]⟩, .int .i64 c] 37) = w5 := ⟨_, rfl⟩
  rw [hw5] at hbx hb5 hcur5
  rw [hw5]
  have u0 := Lib.hid ((hb5.cell (block_of_cell p0)).trans p0)
  have u1 := Lib.hid ((hb5.cell (block_of_cell p1)).trans p1)
  have hbxH := Lib.hid hbx
  clear hX hw5 hb5 p0 p1 hg1H hbx
  go_wp2_with (first
    | (go_at_call 8; refine (hE.out _ _ _ _ e4 (by decide) _ hcur7.out).mono ?_; rintro r w8 ⟨sv, rfl, hrow, hb⟩; obtain ⟨a4, c4, rfl⟩ := row_ge0 hrow; have hcur8 := Lib.hid (hcur7.out.trans (hb.mono hcur7.out.size)); have hb58 := hb57.out.trans (hb.mono hb57.out.size); have m0 : w8.cell? ⟨X, 0, none⟩ = some (.string ⟨#[121]⟩) := (blk_beneath hbxH.out hb58).cell 0; have m1 : w8.cell? ⟨X, 1, none⟩ = some (.int .i64 c) := (blk_beneath hbxH.out hb58).cell 1; have n0 := (hb58.cell (block_of_cell u0.out)).trans u0.out; have n1 := (hb58.cell (block_of_cell u1.out)).trans u1.out; clear hrow hb hb58)
    | (go_at_call 8; refine (hE.out _ _ _ _ e3 (by decide) _ hcur6.out).mono ?_; rintro r w7 ⟨sv, rfl, hrow, hb⟩; obtain ⟨a3, c3, rfl⟩ := row_ge0 hrow; have hcur7 := Lib.hid (hcur6.out.trans (hb.mono hcur6.out.size)); have hb57 := Lib.hid (hb56.out.trans (hb.mono hb56.out.size)); clear hrow hb)
    | (go_at_call 8; refine (hE.out _ _ _ _ e2 (by decide) _ hcur5.out).mono ?_; rintro r w6 ⟨sv, rfl, hrow, hb⟩; obtain ⟨a2, c2, rfl⟩ := row_ge0 hrow; have hcur6 := Lib.hid (hcur5.out.trans (hb.mono hcur5.out.size)); have hb56 := Lib.hid hb; clear hrow hb))
  dsimp only [List.append, HAppend.hAppend, Append.append]
  go_quiet ((go_at_call 11; first | exact Calls.quiet_of_same (one_t _) | exact Calls.quiet_of_same (one_f _)))
  go_wp2
  go_ret
  exact ⟨rfl, (hbn.out.trans (hcur8.out.mono hbn.out.size)).trans ((I.belDN _ _).mono (by have := hbn.out.size; have := hcur8.out.size; omega))⟩
theorem arithChoices_w (a b c : Int) (w : World) (wa : (Lit.int .i64 a).wf = true) (wb : (Lit.int .i64 b).wf = true) (wc : (Lit.int .i64 c).wf = true) :
    Calls Tryz.prog 6 #[.int .i64 a, .int .i64 b, .int .i64 c] w fun e w' => e = .returned (.bool true) ∧ Below w.heap.size w w' := by
  have ra := i64_of wa
  have rb := i64_of wb
  have rc := i64_of wc
  by_cases ka : a = 0
  · by_cases kb : b = 0
    · exact arithChoices_zz a b c w ra rb rc ka kb
    · exact arithChoices_zn a b c w ra rb rc ka kb
  · by_cases kb : b = 0
    · exact arithChoices_nz a b c w ra rb rc ka kb
    · exact arithChoices_nn a b c w ra rb rc ka kb
end Go.Proofs.YtjbmpockoicgmaaGreat
