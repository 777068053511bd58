/- The maker of numbers: ahead, between, truth, number, worth: plain functions and contracts. No condition but that texts are short. -/
import Derived.Test.YtjbmpockoicgmaaGreatArF
import Derived.Test.YtjbmpockoicgmaaGreatShelfT
import Derived.IntWalk
namespace Go.Proofs.YtjbmpockoicgmaaGreat
open Go.RowKit Go.Shelf Go.PlainAid
set_option linter.unusedVariables false
set_option linter.unusedSimpArgs false
attribute [local go_sem] Oper.semAt_some

/-- A number of 64 bits. -/
structure I64 where
  val : Int
  rng : -9223372036854775808 ≤ val ∧ val ≤ 9223372036854775807
theorem I64.ext {x y : I64} (h : x.1 = y.1) : x = y := by cases x; cases y; cases h; rfl
def zI : I64 := ⟨0, by omega⟩
theorem wrap64_rng (x : Int) : -9223372036854775808 ≤ wrap64 x ∧ wrap64 x ≤ 9223372036854775807 := by unfold wrap64; omega
def mkI (x : Int) : I64 := ⟨wrap64 x, wrap64_rng x⟩
theorem mkI_in {x : Int} (h : -9223372036854775808 ≤ x ∧ x ≤ 9223372036854775807) : (mkI x).1 = x := IntWalk.wrap64_in x h
theorem mkI_val (x : I64) : mkI x.1 = x := I64.ext (mkI_in x.2)
def oneI (b : Bool) : I64 := if b then ⟨1, by omega⟩ else ⟨0, by omega⟩
def sh64 (y : Int) : Nat := min ((IntKind.u64.wrap y).tmod 64).toNat 64
def divI (l : List UInt8) (x y : I64) : I64 × Int := if y.1 = 0 then (zI, 61) else if l = [47] then (mkI (x.1.tdiv y.1), 0) else (mkI (x.1.tmod y.1), 0)
def cmpI (l : List UInt8) (x y : I64) : I64 :=
  if l = [61, 61] then oneI (x.1 == y.1) else if l = [33, 61] then oneI (x.1 != y.1) else if l = [60] then oneI (decide (x.1 < y.1)) else if l = [60, 61] then oneI (decide (x.1 ≤ y.1))
  else if l = [62] then oneI (decide (y.1 < x.1)) else oneI (decide (y.1 ≤ x.1))
def betI (l : List UInt8) (x y : I64) : I64 × Int :=
  if l = [47] ∨ l = [37] then divI l x y
  else if l = [61, 61] ∨ l = [33, 61] ∨ l = [60] ∨ l = [60, 61] ∨ l = [62] ∨ l = [62, 61] then (cmpI l x y, 0)
  else if l = [43] then (mkI (x.1 + y.1), 0)
  else if l = [45] then (mkI (x.1 - y.1), 0)
  else if l = [42] then (mkI (x.1 * y.1), 0)
  else if l = [124] then (mkI (bits .or .i64 x.1 y.1), 0)
  else if l = [94] then (mkI (bits .xor .i64 x.1 y.1), 0)
  else if l = [38] then (mkI (bits .and .i64 x.1 y.1), 0)
  else if l = [60, 60] then (mkI (x.1 * 2 ^ sh64 y.1), 0)
  else (mkI (x.1.fdiv (2 ^ sh64 y.1)), 0)
def ahdI (l : List UInt8) (x : I64) : I64 :=
  if l = [45] then mkI (-x.1) else if l = [126] then mkI (bits .xor .i64 (-1) x.1) else if l = [33] then oneI (x.1 == 0) else x
def trimT (s : ByteArray) : ByteArray := ⟨(Lib.trimS s.data.toList [9, 10, 32]).toArray⟩
def signB (t : ByteArray) : Bool := bt t 0 == 43 || bt t 0 == 45
def digT (t : ByteArray) : ByteArray := if signB t then t.extract 1 t.size else t
def worthM (s : ByteArray) : I64 × Int :=
  if (trimT s).size = 0 then (zI, 0)
  else if (numM (digT (trimT s))).2 = 0 ∨ (numM (digT (trimT s))).2 < (digT (trimT s)).size then (zI, 60)
  else if bt (trimT s) 0 = 45 then (mkI (-(numM (digT (trimT s))).1), 0) else (mkI (numM (digT (trimT s))).1, 0)

theorem bits_rng (o : BinOp) (x y : Int) (h : ∃ z, bits o .i64 x y = IntKind.i64.wrap z) : (mkI (bits o .i64 x y)).1 = bits o .i64 x y := by
  obtain ⟨z, hz⟩ := h
  rw [hz]
  exact mkI_in (by rw [i64_is]; exact wrap64_rng z)
theorem or_rng (x y : Int) : (mkI (bits .or .i64 x y)).1 = bits .or .i64 x y := bits_rng _ _ _ ⟨_, rfl⟩
theorem xor_rng (x y : Int) : (mkI (bits .xor .i64 x y)).1 = bits .xor .i64 x y := bits_rng _ _ _ ⟨_, rfl⟩
theorem and_rng (x y : Int) : (mkI (bits .and .i64 x y)).1 = bits .and .i64 x y := bits_rng _ _ _ ⟨_, rfl⟩
theorem sh_pos (y : Int) : 0 ≤ (IntKind.u64.wrap y).tmod 64 ∧ (IntKind.u64.wrap y).tmod 64 < 64 := by
  have h := wrap_in y
  rw [Int.tmod_eq_emod_of_nonneg h.1]; omega
theorem run_shl (x y : Int) (w : World) : (Op.shift .shl .i64 x .u64 ((IntKind.u64.wrap y).tmod 64)).run Tryz.prog w = .ok (.int .i64 (mkI (x * 2 ^ sh64 y)).1) w := by
  have h := sh_pos y
  unfold Op.shift
  rw [if_neg (by omega)]
  show Result.ok (Value.int .i64 (IntKind.i64.wrap _)) w = _
  rw [i64_is]; rfl
theorem fdiv_rng {x : Int} (h : -9223372036854775808 ≤ x ∧ x ≤ 9223372036854775807) (n : Nat) : -9223372036854775808 ≤ x.fdiv (2 ^ n) ∧ x.fdiv (2 ^ n) ≤ 9223372036854775807 := by
  have hp : (0 : Int) < 2 ^ n := Int.pow_pos (by decide)
  rw [Int.fdiv_eq_ediv_of_nonneg _ (by omega)]
  have h1 : x / 2 ^ n * 2 ^ n ≤ x := Int.ediv_mul_le x (by omega)
  constructor
  · by_cases hx : 0 ≤ x
    · have := Int.ediv_nonneg hx (Int.le_of_lt hp); omega
    · have h2 := Int.le_ediv_of_mul_le hp (a := x) (b := x) (by
        have : x * 2 ^ n ≤ x * 1 := Int.mul_le_mul_of_nonpos_left (by omega) (by omega)
        omega)
      omega
  · by_cases hx : 0 ≤ x
    · have := Int.ediv_le_self (2 ^ n) hx; omega
    · have := Int.ediv_neg_of_neg_of_pos (by omega : x < 0) hp; omega
theorem run_shr (x : I64) (y : Int) (w : World) : (Op.shift .shr .i64 x.1 .u64 ((IntKind.u64.wrap y).tmod 64)).run Tryz.prog w = .ok (.int .i64 (mkI (x.1.fdiv (2 ^ sh64 y))).1) w := by
  have h := sh_pos y
  unfold Op.shift
  rw [if_neg (by omega), mkI_in (fdiv_rng x.2 _)]
  rfl
theorem ret_pair {a b c d : Int} (h : a = c) (k : b = d) : Ending.returned (.tuple #[.int .i64 a, .int .i64 b]) = .returned (.tuple #[.int .i64 c, .int .i64 d]) := by rw [h, k]
theorem ne_of_beq {l k : List UInt8} (h : (l == k) = false) : ¬ l = k := fun e => by rw [e] at h; simp at h

set_option maxHeartbeats 1000000 in
theorem oneIf_any (b : Bool) (w : World) : Calls Tryz.prog 93 #[.bool b] w fun e w' => e = .returned (.int .i64 (oneI b).1) ∧ w = w' := by
  cases b
  all_goals
    go_enter Tryz.func93, Tryz.ntmps93
    go_wp2
    go_ret
    exact ⟨rfl, rfl⟩

set_option maxHeartbeats 4000000 in
theorem compare_any (op : ByteArray) (x y : I64) (w : World) : Calls Tryz.prog 95 #[.string op, .int .i64 x.1, .int .i64 y.1] w fun e w' => e = .returned (.int .i64 (cmpI op.toList x y).1) ∧ w = w' := by
  obtain ⟨x0, hx⟩ := x
  obtain ⟨y0, hy⟩ := y
  cases h0 : (op.toList == [61, 61])
  rotate_left
  · have hr := Lib.hid (show cmpI op.toList ⟨x0, hx⟩ ⟨y0, hy⟩ = oneI (x0 == y0) by unfold cmpI; rw [if_pos (eq_of_beq h0)])
    rw [hr.out]
    go_enter Tryz.func95, Tryz.ntmps95
    go_wp2_with (go_at_call 93; refine (oneIf_any _ _).mono ?_; rintro e w' ⟨rfl, rfl⟩)
    go_ret
    exact ⟨rfl, rfl⟩
  have n0 := ne_of_beq h0
  cases h1 : (op.toList == [33, 61])
  rotate_left
  · have hr := Lib.hid (show cmpI op.toList ⟨x0, hx⟩ ⟨y0, hy⟩ = oneI (x0 != y0) by unfold cmpI; rw [if_neg n0, if_pos (eq_of_beq h1)])
    rw [hr.out]
    go_enter Tryz.func95, Tryz.ntmps95
    go_wp2_with (go_at_call 93; refine (oneIf_any _ _).mono ?_; rintro e w' ⟨rfl, rfl⟩)
    go_ret
    exact ⟨rfl, rfl⟩
  have n1 := ne_of_beq h1
  cases h2 : (op.toList == [60])
  rotate_left
  · have hr := Lib.hid (show cmpI op.toList ⟨x0, hx⟩ ⟨y0, hy⟩ = oneI (decide (x0 < y0)) by unfold cmpI; rw [if_neg n0, if_neg n1, if_pos (eq_of_beq h2)])
    rw [hr.out]
    go_enter Tryz.func95, Tryz.ntmps95
    go_wp2_with (go_at_call 93; refine (oneIf_any _ _).mono ?_; rintro e w' ⟨rfl, rfl⟩)
    go_ret
    exact ⟨rfl, rfl⟩
  have n2 := ne_of_beq h2
  cases h3 : (op.toList == [60, 61])
  rotate_left
  · have hr := Lib.hid (show cmpI op.toList ⟨x0, hx⟩ ⟨y0, hy⟩ = oneI (decide (x0 ≤ y0)) by unfold cmpI; rw [if_neg n0, if_neg n1, if_neg n2, if_pos (eq_of_beq h3)])
    rw [hr.out]
    go_enter Tryz.func95, Tryz.ntmps95
    go_wp2_with (go_at_call 93; refine (oneIf_any _ _).mono ?_; rintro e w' ⟨rfl, rfl⟩)
    go_ret
    exact ⟨rfl, rfl⟩
  have n3 := ne_of_beq h3
  cases h4 : (op.toList == [62])
  rotate_left
  · have hr := Lib.hid (show cmpI op.toList ⟨x0, hx⟩ ⟨y0, hy⟩ = oneI (decide (y0 < x0)) by unfold cmpI; rw [if_neg n0, if_neg n1, if_neg n2, if_neg n3, if_pos (eq_of_beq h4)])
    rw [hr.out]
    go_enter Tryz.func95, Tryz.ntmps95
    go_wp2_with (go_at_call 93; refine (oneIf_any _ _).mono ?_; rintro e w' ⟨rfl, rfl⟩)
    go_ret
    exact ⟨rfl, rfl⟩
  have n4 := ne_of_beq h4
  have hr := Lib.hid (show cmpI op.toList ⟨x0, hx⟩ ⟨y0, hy⟩ = oneI (decide (y0 ≤ x0)) by unfold cmpI; rw [if_neg n0, if_neg n1, if_neg n2, if_neg n3, if_neg n4])
  rw [hr.out]
  clear n0 n1 n2 n3 n4
  go_enter Tryz.func95, Tryz.ntmps95
  go_wp2_with (go_at_call 93; refine (oneIf_any _ _).mono ?_; rintro e w' ⟨rfl, rfl⟩)
  go_ret
  exact ⟨rfl, rfl⟩

theorem tdiv_mk (x y : I64) : (mkI (x.1.tdiv y.1)).1 = wrap64 (x.1.tdiv y.1) := rfl
set_option maxHeartbeats 4000000 in
theorem divide_any (op : ByteArray) (x y : I64) (w : World) : Calls Tryz.prog 94 #[.string op, .int .i64 x.1, .int .i64 y.1] w fun e w' => e = .returned (.tuple #[.int .i64 (divI op.toList x y).1.1, .int .i64 (divI op.toList x y).2]) ∧ w = w' := by
  obtain ⟨x0, hx⟩ := x
  obtain ⟨y0, hy⟩ := y
  by_cases hz : y0 = 0
  · subst hz
    have hr := Lib.hid (show divI op.toList ⟨x0, hx⟩ ⟨0, hy⟩ = (zI, 61) by unfold divI; rw [if_pos rfl])
    rw [hr.out]
    go_enter Tryz.func94, Tryz.ntmps94
    go_wp2
    go_ret2
    exact ⟨rfl, rfl⟩
  · have hz2 : (y0 == 0) = false := beq_eq_false_iff_ne.2 hz
    cases h0 : (op.toList == [47])
    · have hr := Lib.hid (show divI op.toList ⟨x0, hx⟩ ⟨y0, hy⟩ = (mkI (x0.tmod y0), 0) by unfold divI; rw [if_neg hz, if_neg (ne_of_beq h0)])
      have htm : (mkI (x0.tmod y0)).1 = x0.tmod y0 := mkI_in (by
        have h1 := Int.natAbs_tmod x0 y0
        have h2 := Nat.mod_le x0.natAbs y0.natAbs
        rcases Int.le_total 0 x0 with h | h
        · have h3 := Int.tmod_nonneg y0 h
          omega
        · have h4 : (-x0).tmod y0 = -(x0.tmod y0) := Int.neg_tmod ..
          have h3 := Int.tmod_nonneg y0 (by omega : 0 ≤ -x0)
          omega)
      rw [hr.out, htm]
      have htmH := Lib.hid htm
      clear htm
      go_enter Tryz.func94, Tryz.ntmps94
      go_wp2
      go_ret2
      exact ⟨rfl, rfl⟩
    · have hr := Lib.hid (show divI op.toList ⟨x0, hx⟩ ⟨y0, hy⟩ = (mkI (x0.tdiv y0), 0) by unfold divI; rw [if_neg hz, if_pos (eq_of_beq h0)])
      rw [hr.out]
      go_enter Tryz.func94, Tryz.ntmps94
      go_wp2
      go_ret2
      exact ⟨rfl, rfl⟩

set_option maxHeartbeats 4000000 in
theorem ahead_any (np : Nat) (op : ByteArray) (x : I64) (w : World) : Calls Tryz.prog 87 #[.pointer (some ⟨np, 0, none⟩), .string op, .int .i64 x.1] w fun e w' => e = .returned (.int .i64 (ahdI op.toList x).1) ∧ w = w' := by
  obtain ⟨x0, hx⟩ := x
  cases h0 : (op.toList == [45])
  rotate_left
  · have hr := Lib.hid (show ahdI op.toList ⟨x0, hx⟩ = mkI (-x0) by unfold ahdI; rw [if_pos (eq_of_beq h0)])
    rw [hr.out]
    go_enter Tryz.func87, Tryz.ntmps87
    go_wp2
    go_ret
    exact ⟨rfl, rfl⟩
  have n0 := ne_of_beq h0
  cases h1 : (op.toList == [126])
  rotate_left
  · have hr := Lib.hid (show (ahdI op.toList ⟨x0, hx⟩).1 = bits .xor .i64 (-1) x0 by unfold ahdI; rw [if_neg n0, if_pos (eq_of_beq h1)]; exact xor_rng _ _)
    rw [hr.out]
    go_enter Tryz.func87, Tryz.ntmps87
    go_wp2
    go_ret
    exact ⟨rfl, rfl⟩
  have n1 := ne_of_beq h1
  cases h2 : (op.toList == [33])
  rotate_left
  · have hr := Lib.hid (show ahdI op.toList ⟨x0, hx⟩ = oneI (x0 == 0) by unfold ahdI; rw [if_neg n0, if_neg n1, if_pos (eq_of_beq h2)])
    rw [hr.out]
    clear n0 n1
    go_enter Tryz.func87, Tryz.ntmps87
    go_wp2_with (go_at_call 93; refine (oneIf_any _ _).mono ?_; rintro e w' ⟨rfl, rfl⟩)
    go_ret
    exact ⟨rfl, rfl⟩
  have n2 := ne_of_beq h2
  have hr := Lib.hid (show ahdI op.toList ⟨x0, hx⟩ = ⟨x0, hx⟩ by unfold ahdI; rw [if_neg n0, if_neg n1, if_neg n2])
  rw [hr.out]
  clear n0 n1 n2
  go_enter Tryz.func87, Tryz.ntmps87
  go_wp2
  go_ret
  exact ⟨rfl, rfl⟩

set_option maxHeartbeats 8000000 in
theorem between_any (np : Nat) (op : ByteArray) (x y : I64) (w : World) : Calls Tryz.prog 89 #[.pointer (some ⟨np, 0, none⟩), .string op, .int .i64 x.1, .int .i64 y.1] w fun e w' => e = .returned (.tuple #[.int .i64 (betI op.toList x y).1.1, .int .i64 (betI op.toList x y).2]) ∧ w = w' := by
  obtain ⟨x0, hx⟩ := x
  obtain ⟨y0, hy⟩ := y
  have hsl := run_shl x0 y0
  have hsr := run_shr ⟨x0, hx⟩ y0
  dsimp only at hsr
  have hslH := Lib.hid hsl
  have hsrH := Lib.hid hsr
  clear hsl hsr
  cases h0 : (op.toList == [47])
  rotate_left
  · have hr := Lib.hid (show betI op.toList ⟨x0, hx⟩ ⟨y0, hy⟩ = divI op.toList ⟨x0, hx⟩ ⟨y0, hy⟩ by unfold betI; rw [if_pos (.inl (eq_of_beq h0))])
    rw [hr.out]
    skip
    go_enter Tryz.func89, Tryz.ntmps89
    go_wp2_with (first | (go_at_call 94; refine (divide_any op ⟨x0, hx⟩ ⟨y0, hy⟩ _).mono ?_; rintro e w' ⟨rfl, rfl⟩) | (go_at_call 95; refine (compare_any op ⟨x0, hx⟩ ⟨y0, hy⟩ _).mono ?_; rintro e w' ⟨rfl, rfl⟩))
    go_ret2
    exact ⟨rfl, rfl⟩
  have n0 := ne_of_beq h0
  cases h1 : (op.toList == [37])
  rotate_left
  · have hr := Lib.hid (show betI op.toList ⟨x0, hx⟩ ⟨y0, hy⟩ = divI op.toList ⟨x0, hx⟩ ⟨y0, hy⟩ by unfold betI; rw [if_pos (.inr (eq_of_beq h1))])
    rw [hr.out]
    clear n0
    go_enter Tryz.func89, Tryz.ntmps89
    go_wp2_with (first | (go_at_call 94; refine (divide_any op ⟨x0, hx⟩ ⟨y0, hy⟩ _).mono ?_; rintro e w' ⟨rfl, rfl⟩) | (go_at_call 95; refine (compare_any op ⟨x0, hx⟩ ⟨y0, hy⟩ _).mono ?_; rintro e w' ⟨rfl, rfl⟩))
    go_ret2
    exact ⟨rfl, rfl⟩
  have n1 := ne_of_beq h1
  have nd : ¬ (op.toList = [47] ∨ op.toList = [37]) := fun h => h.elim n0 n1
  cases h2 : (op.toList == [61, 61])
  rotate_left
  · have hr := Lib.hid (show betI op.toList ⟨x0, hx⟩ ⟨y0, hy⟩ = (cmpI op.toList ⟨x0, hx⟩ ⟨y0, hy⟩, 0) by unfold betI; rw [if_neg nd, if_pos (.inl (eq_of_beq h2))])
    rw [hr.out]
    clear nd n0 n1
    go_enter Tryz.func89, Tryz.ntmps89
    go_wp2_with (first | (go_at_call 94; refine (divide_any op ⟨x0, hx⟩ ⟨y0, hy⟩ _).mono ?_; rintro e w' ⟨rfl, rfl⟩) | (go_at_call 95; refine (compare_any op ⟨x0, hx⟩ ⟨y0, hy⟩ _).mono ?_; rintro e w' ⟨rfl, rfl⟩))
    go_ret2
    exact ⟨rfl, rfl⟩
  have n2 := ne_of_beq h2
  cases h3 : (op.toList == [33, 61])
  rotate_left
  · have hr := Lib.hid (show betI op.toList ⟨x0, hx⟩ ⟨y0, hy⟩ = (cmpI op.toList ⟨x0, hx⟩ ⟨y0, hy⟩, 0) by unfold betI; rw [if_neg nd, if_pos (.inr (.inl (eq_of_beq h3)))])
    rw [hr.out]
    clear nd n0 n1 n2
    go_enter Tryz.func89, Tryz.ntmps89
    go_wp2_with (first | (go_at_call 94; refine (divide_any op ⟨x0, hx⟩ ⟨y0, hy⟩ _).mono ?_; rintro e w' ⟨rfl, rfl⟩) | (go_at_call 95; refine (compare_any op ⟨x0, hx⟩ ⟨y0, hy⟩ _).mono ?_; rintro e w' ⟨rfl, rfl⟩))
    go_ret2
    exact ⟨rfl, rfl⟩
  have n3 := ne_of_beq h3
  cases h4 : (op.toList == [60])
  rotate_left
  · have hr := Lib.hid (show betI op.toList ⟨x0, hx⟩ ⟨y0, hy⟩ = (cmpI op.toList ⟨x0, hx⟩ ⟨y0, hy⟩, 0) by unfold betI; rw [if_neg nd, if_pos (.inr (.inr (.inl (eq_of_beq h4))))])
    rw [hr.out]
    clear nd n0 n1 n2 n3
    go_enter Tryz.func89, Tryz.ntmps89
    go_wp2_with (first | (go_at_call 94; refine (divide_any op ⟨x0, hx⟩ ⟨y0, hy⟩ _).mono ?_; rintro e w' ⟨rfl, rfl⟩) | (go_at_call 95; refine (compare_any op ⟨x0, hx⟩ ⟨y0, hy⟩ _).mono ?_; rintro e w' ⟨rfl, rfl⟩))
    go_ret2
    exact ⟨rfl, rfl⟩
  have n4 := ne_of_beq h4
  cases h5 : (op.toList == [60, 61])
  rotate_left
  · have hr := Lib.hid (show betI op.toList ⟨x0, hx⟩ ⟨y0, hy⟩ = (cmpI op.toList ⟨x0, hx⟩ ⟨y0, hy⟩, 0) by unfold betI; rw [if_neg nd, if_pos (.inr (.inr (.inr (.inl (eq_of_beq h5)))))])
    rw [hr.out]
    clear nd n0 n1 n2 n3 n4
    go_enter Tryz.func89, Tryz.ntmps89
    go_wp2_with (first | (go_at_call 94; refine (divide_any op ⟨x0, hx⟩ ⟨y0, hy⟩ _).mono ?_; rintro e w' ⟨rfl, rfl⟩) | (go_at_call 95; refine (compare_any op ⟨x0, hx⟩ ⟨y0, hy⟩ _).mono ?_; rintro e w' ⟨rfl, rfl⟩))
    go_ret2
    exact ⟨rfl, rfl⟩
  have n5 := ne_of_beq h5
  cases h6 : (op.toList == [62])
  rotate_left
  · have hr := Lib.hid (show betI op.toList ⟨x0, hx⟩ ⟨y0, hy⟩ = (cmpI op.toList ⟨x0, hx⟩ ⟨y0, hy⟩, 0) by unfold betI; rw [if_neg nd, if_pos (.inr (.inr (.inr (.inr (.inl (eq_of_beq h6))))))])
    rw [hr.out]
    clear nd n0 n1 n2 n3 n4 n5
    go_enter Tryz.func89, Tryz.ntmps89
    go_wp2_with (first | (go_at_call 94; refine (divide_any op ⟨x0, hx⟩ ⟨y0, hy⟩ _).mono ?_; rintro e w' ⟨rfl, rfl⟩) | (go_at_call 95; refine (compare_any op ⟨x0, hx⟩ ⟨y0, hy⟩ _).mono ?_; rintro e w' ⟨rfl, rfl⟩))
    go_ret2
    exact ⟨rfl, rfl⟩
  have n6 := ne_of_beq h6
  cases h7 : (op.toList == [62, 61])
  rotate_left
  · have hr := Lib.hid (show betI op.toList ⟨x0, hx⟩ ⟨y0, hy⟩ = (cmpI op.toList ⟨x0, hx⟩ ⟨y0, hy⟩, 0) by unfold betI; rw [if_neg nd, if_pos (.inr (.inr (.inr (.inr (.inr ((eq_of_beq h7)))))))])
    rw [hr.out]
    clear nd n0 n1 n2 n3 n4 n5 n6
    go_enter Tryz.func89, Tryz.ntmps89
    go_wp2_with (first | (go_at_call 94; refine (divide_any op ⟨x0, hx⟩ ⟨y0, hy⟩ _).mono ?_; rintro e w' ⟨rfl, rfl⟩) | (go_at_call 95; refine (compare_any op ⟨x0, hx⟩ ⟨y0, hy⟩ _).mono ?_; rintro e w' ⟨rfl, rfl⟩))
    go_ret2
    exact ⟨rfl, rfl⟩
  have n7 := ne_of_beq h7
  have nk : ¬ (op.toList = [61, 61] ∨ op.toList = [33, 61] ∨ op.toList = [60] ∨ op.toList = [60, 61] ∨ op.toList = [62] ∨ op.toList = [62, 61]) := fun h => by rcases h with h | h | h | h | h | h <;> contradiction
  cases h8 : (op.toList == [43])
  rotate_left
  · have hr1 := Lib.hid (show (betI op.toList ⟨x0, hx⟩ ⟨y0, hy⟩).1.1 = wrap64 (x0 + y0) by unfold betI; rw [if_neg nd, if_neg nk, if_pos (eq_of_beq h8)]; exact rfl)
    have hr2 := Lib.hid (show (betI op.toList ⟨x0, hx⟩ ⟨y0, hy⟩).2 = 0 by unfold betI; rw [if_neg nd, if_neg nk, if_pos (eq_of_beq h8)])
    rw [hr1.out, hr2.out]
    clear nd nk n0 n1 n2 n3 n4 n5 n6 n7
    skip
    go_enter Tryz.func89, Tryz.ntmps89
    go_wp2
    go_ret2
    exact ⟨ret_pair rfl rfl, rfl⟩
  have n8 := ne_of_beq h8
  cases h9 : (op.toList == [45])
  rotate_left
  · have hr1 := Lib.hid (show (betI op.toList ⟨x0, hx⟩ ⟨y0, hy⟩).1.1 = wrap64 (x0 - y0) by unfold betI; rw [if_neg nd, if_neg nk, if_neg n8, if_pos (eq_of_beq h9)]; exact rfl)
    have hr2 := Lib.hid (show (betI op.toList ⟨x0, hx⟩ ⟨y0, hy⟩).2 = 0 by unfold betI; rw [if_neg nd, if_neg nk, if_neg n8, if_pos (eq_of_beq h9)])
    rw [hr1.out, hr2.out]
    clear nd nk n0 n1 n2 n3 n4 n5 n6 n7 n8
    skip
    go_enter Tryz.func89, Tryz.ntmps89
    go_wp2
    go_ret2
    exact ⟨ret_pair rfl rfl, rfl⟩
  have n9 := ne_of_beq h9
  cases h10 : (op.toList == [42])
  rotate_left
  · have hr1 := Lib.hid (show (betI op.toList ⟨x0, hx⟩ ⟨y0, hy⟩).1.1 = wrap64 (x0 * y0) by unfold betI; rw [if_neg nd, if_neg nk, if_neg n8, if_neg n9, if_pos (eq_of_beq h10)]; exact rfl)
    have hr2 := Lib.hid (show (betI op.toList ⟨x0, hx⟩ ⟨y0, hy⟩).2 = 0 by unfold betI; rw [if_neg nd, if_neg nk, if_neg n8, if_neg n9, if_pos (eq_of_beq h10)])
    rw [hr1.out, hr2.out]
    clear nd nk n0 n1 n2 n3 n4 n5 n6 n7 n8 n9
    skip
    go_enter Tryz.func89, Tryz.ntmps89
    go_wp2
    go_ret2
    exact ⟨ret_pair rfl rfl, rfl⟩
  have n10 := ne_of_beq h10
  cases h11 : (op.toList == [124])
  rotate_left
  · have hr1 := Lib.hid (show (betI op.toList ⟨x0, hx⟩ ⟨y0, hy⟩).1.1 = bits .or .i64 x0 y0 by unfold betI; rw [if_neg nd, if_neg nk, if_neg n8, if_neg n9, if_neg n10, if_pos (eq_of_beq h11)]; exact or_rng _ _)
    have hr2 := Lib.hid (show (betI op.toList ⟨x0, hx⟩ ⟨y0, hy⟩).2 = 0 by unfold betI; rw [if_neg nd, if_neg nk, if_neg n8, if_neg n9, if_neg n10, if_pos (eq_of_beq h11)])
    rw [hr1.out, hr2.out]
    clear nd nk n0 n1 n2 n3 n4 n5 n6 n7 n8 n9 n10
    skip
    go_enter Tryz.func89, Tryz.ntmps89
    go_wp2
    go_ret2
    exact ⟨ret_pair rfl rfl, rfl⟩
  have n11 := ne_of_beq h11
  cases h12 : (op.toList == [94])
  rotate_left
  · have hr1 := Lib.hid (show (betI op.toList ⟨x0, hx⟩ ⟨y0, hy⟩).1.1 = bits .xor .i64 x0 y0 by unfold betI; rw [if_neg nd, if_neg nk, if_neg n8, if_neg n9, if_neg n10, if_neg n11, if_pos (eq_of_beq h12)]; exact xor_rng _ _)
    have hr2 := Lib.hid (show (betI op.toList ⟨x0, hx⟩ ⟨y0, hy⟩).2 = 0 by unfold betI; rw [if_neg nd, if_neg nk, if_neg n8, if_neg n9, if_neg n10, if_neg n11, if_pos (eq_of_beq h12)])
    rw [hr1.out, hr2.out]
    clear nd nk n0 n1 n2 n3 n4 n5 n6 n7 n8 n9 n10 n11
    skip
    go_enter Tryz.func89, Tryz.ntmps89
    go_wp2
    go_ret2
    exact ⟨ret_pair rfl rfl, rfl⟩
  have n12 := ne_of_beq h12
  cases h13 : (op.toList == [38])
  rotate_left
  · have hr1 := Lib.hid (show (betI op.toList ⟨x0, hx⟩ ⟨y0, hy⟩).1.1 = bits .and .i64 x0 y0 by unfold betI; rw [if_neg nd, if_neg nk, if_neg n8, if_neg n9, if_neg n10, if_neg n11, if_neg n12, if_pos (eq_of_beq h13)]; exact and_rng _ _)
    have hr2 := Lib.hid (show (betI op.toList ⟨x0, hx⟩ ⟨y0, hy⟩).2 = 0 by unfold betI; rw [if_neg nd, if_neg nk, if_neg n8, if_neg n9, if_neg n10, if_neg n11, if_neg n12, if_pos (eq_of_beq h13)])
    rw [hr1.out, hr2.out]
    clear nd nk n0 n1 n2 n3 n4 n5 n6 n7 n8 n9 n10 n11 n12
    skip
    go_enter Tryz.func89, Tryz.ntmps89
    go_wp2
    go_ret2
    exact ⟨ret_pair rfl rfl, rfl⟩
  have n13 := ne_of_beq h13
  cases h14 : (op.toList == [60, 60])
  rotate_left
  · have hr1 := Lib.hid (show (betI op.toList ⟨x0, hx⟩ ⟨y0, hy⟩).1.1 = (mkI (x0 * 2 ^ sh64 y0)).1 by unfold betI; rw [if_neg nd, if_neg nk, if_neg n8, if_neg n9, if_neg n10, if_neg n11, if_neg n12, if_neg n13, if_pos (eq_of_beq h14)])
    have hr2 := Lib.hid (show (betI op.toList ⟨x0, hx⟩ ⟨y0, hy⟩).2 = 0 by unfold betI; rw [if_neg nd, if_neg nk, if_neg n8, if_neg n9, if_neg n10, if_neg n11, if_neg n12, if_neg n13, if_pos (eq_of_beq h14)])
    rw [hr1.out, hr2.out]
    clear nd nk n0 n1 n2 n3 n4 n5 n6 n7 n8 n9 n10 n11 n12 n13
    have hsl := hslH.out
    go_enter Tryz.func89, Tryz.ntmps89
    go_wp2
    go_ret2
    exact ⟨ret_pair rfl rfl, rfl⟩
  have n14 := ne_of_beq h14
  have hr := Lib.hid (show betI op.toList ⟨x0, hx⟩ ⟨y0, hy⟩ = (mkI (x0.fdiv (2 ^ sh64 y0)), 0) by unfold betI; rw [if_neg nd, if_neg nk, if_neg n8, if_neg n9, if_neg n10, if_neg n11, if_neg n12, if_neg n13, if_neg n14])
  rw [hr.out]
  clear nd nk n0 n1 n2 n3 n4 n5 n6 n7 n8 n9 n10 n11 n12 n13 n14
  have hsr := hsrH.out
  go_enter Tryz.func89, Tryz.ntmps89
  go_wp2
  go_ret2
  exact ⟨ret_pair rfl rfl, rfl⟩

set_option maxHeartbeats 1000000 in
theorem number_int (np : Nat) (x : Int) (w : World) : Calls Tryz.prog 90 #[.pointer (some ⟨np, 0, none⟩), .int .i64 x] w fun e w' => e = .returned (.int .i64 x) ∧ w = w' := by
  go_enter Tryz.func90, Tryz.ntmps90
  go_wp2
  go_ret
  exact ⟨rfl, rfl⟩
set_option maxHeartbeats 1000000 in
theorem truth_int (np : Nat) (x : Int) (w : World) : Calls Tryz.prog 91 #[.pointer (some ⟨np, 0, none⟩), .int .i64 x] w fun e w' => e = .returned (.bool (x != 0)) ∧ w = w' := by
  go_enter Tryz.func91, Tryz.ntmps91
  go_wp2
  go_ret
  exact ⟨rfl, rfl⟩
end Go.Proofs.YtjbmpockoicgmaaGreat
