/- ArithSums' walk. Condition: the numbers are of 64 bits. -/
import Derived.Test.YtjbmpockoicgmaaGreatNmX
import Derived.Maps.RangeWalk
namespace Go.Proofs.YtjbmpockoicgmaaGreat
open Go.RowKit Go.Shelf Go.PlainAid
set_option linter.unusedVariables false
set_option linter.unusedSimpArgs false
attribute [local go_sem] Oper.semAt_some
theorem and63 (n : Int) : bits .and .i64 n 63 = n % 64 := by
  have h63 : (BitVec.ofInt 64 63).toNat = 2 ^ 6 - 1 := by decide
  have key : (BitVec.ofInt 64 n &&& BitVec.ofInt 64 63).toNat = (n % ((2 ^ 64 : Nat) : Int)).toNat % 2 ^ 6 := by
    rw [BitVec.toNat_and, BitVec.toNat_ofInt, h63, Nat.and_two_pow_sub_one_eq_mod]
  show IntKind.i64.wrap ((BitVec.ofInt 64 n &&& BitVec.ofInt 64 63).toNat : Nat) = n % 64
  rw [key, IntKind.wrap_i64]
  omega
theorem sh64_is (b : Int) : ((sh64 b : Nat) : Int) = b % 64 ∧ sh64 b < 64 := by
  have h := sh_pos b
  have hw := wrap_in b
  have e : (IntKind.u64.wrap b).tmod 64 = b % 64 := by
    rw [Int.tmod_eq_emod_of_nonneg hw.1]
    simp only [IntKind.wrap, IntKind.bits, IntKind.signed]
    simp
  unfold sh64
  rw [e]
  omega
theorem shl_run (x : Int) (k : Nat) (hk : k < 64) (w : World) : (Op.shift .shl .i64 x .u64 (k : Int)).run Tryz.prog w = .ok (.int .i64 (wrap64 (x * 2 ^ k))) w := by
  unfold Op.shift
  rw [if_neg (by omega)]
  show Result.ok (Value.int .i64 (IntKind.i64.wrap (x * 2 ^ min (k : Int).toNat 64))) w = _
  rw [show min (k : Int).toNat 64 = k by omega, i64_is]
theorem shr_run (x : Int) (k : Nat) (hk : k < 64) (w : World) : (Op.shift .shr .i64 x .u64 (k : Int)).run Tryz.prog w = .ok (.int .i64 (x.fdiv (2 ^ k))) w := by
  unfold Op.shift
  rw [if_neg (by omega)]
  show Result.ok (Value.int .i64 (x.fdiv (2 ^ min (k : Int).toNat 64))) w = _
  rw [show min (k : Int).toNat 64 = k by omega]
/-- A map whose keys are texts that are worth what the map tells. -/
def MapG (EV : ByteArray → List Vr → Int × List (ByteArray × I64) × Int) (L : List Vr) (w : World) (b n : Nat) : Prop := ∃ V, MapN 2 w b n V ∧ ∀ y c, V y = some c → EV y L = (c, [], 0) ∧ y.size ≤ 100
theorem MapG.put {EV : ByteArray → List Vr → Int × List (ByteArray × I64) × Int} {L : List Vr} {w : World} {b n : Nat} (h : MapG EV L w b n) (hn : n < 100) {x : ByteArray} {v : Int} (e : EV x L = (v, [], 0)) (hx : x.size ≤ 100) (hv : Rg v) :
    ∃ w', (Instr.mapUpdate 34 (.map (some b)) (.string x) (.int .i64 v)).run Tryz.prog w = .ok () w' ∧ MapG EV L w' b (n + 1) ∧ w.grownBy w' (some b) := by
  obtain ⟨V, h1, h2⟩ := h
  obtain ⟨w', hr, hm, hg⟩ := h1.put (t := 34) Tryz.underlying34 und2 x (Nat.le_trans hx (by decide)) v hv (Nat.lt_of_lt_of_le hn (by decide))
  refine ⟨w', hr, ⟨_, hm, fun y c hc => ?_⟩, hg⟩
  by_cases hy : y = x
  · subst hy
    simp at hc
    subst hc
    exact ⟨e, hx⟩
  · simp [hy] at hc
    exact h2 y c hc
theorem keyOf_str_inv {P : Program} {k : TypeId} (hk : P.underlying k = some .string) {key : Value} {kl : Lit} (h : keyOf P k key = some kl) : ∃ x, key = .string x ∧ kl = .string x.data.toList := by
  cases key <;> simp [keyOf, hk, mapKey] at h
  obtain ⟨_, rfl⟩ := h
  exact ⟨_, rfl, rfl⟩
theorem gr_below {n : Nat} {w w' : World} {r : Nat} (h : w.grownBy w' (some r)) (hn : n ≤ w.heap.size) (hr : n ≤ r) : Below n w w' := ⟨h.os, h.tape, h.output, h.size, fun g hg => h.block g (by omega) (by intro e; cases e; omega)⟩
theorem rg_wrap (x : Int) : Rg (wrap64 x) := wrap64_rng x
theorem rg_bits (o : BinOp) (x y : Int) (h : ∃ z, bits o .i64 x y = IntKind.i64.wrap z) : Rg (bits o .i64 x y) := by
  obtain ⟨z, hz⟩ := h
  rw [hz, i64_is]
  exact wrap64_rng z
set_option maxRecDepth 100000 in
set_option maxHeartbeats 2000000 in
theorem arithSums_w (a b : Int) (w : World) (wa : (Lit.int .i64 a).wf = true) (wb : (Lit.int .i64 b).wf = true) :
    Calls Tryz.prog 4 #[.int .i64 a, .int .i64 b] w fun e w' => e = .returned (.bool true) ∧ Below w.heap.size w w' := by
  have ra := i64_of wa
  have rb := i64_of wb
  have haw := Lib.hid (awake_c w)
  have hdd := Lib.hid (fun (x : Int) (hx : Rg x) (W : World) => decimal_any x hx W)
  have o_add := ev_add ra rb
  have o_sub := ev_sub ra rb
  have o_mul := ev_mul ra rb
  have o_and := ev_and ra rb
  have o_or := ev_or ra rb
  have o_xor := ev_xor ra rb
  have o_inv := ev_inv ra rb
  have o_neg := ev_neg ra rb
  have o_shl := ev_shl ra rb
  have o_shr := ev_shr ra rb
  have e1 := ev_lss ra rb
  have e2 := ev_eql ra rb
  have e3 : evalM ⟨#[97, 47, 98, 42, 98, 43, 97, 37, 98]⟩ (two (decT a) (decT b)) = if b = 0 then (0, [], 61) else (a, [], 0) := by
    by_cases hb : b = 0
    · rw [if_pos hb]; exact ev_div_z ra rb hb
    · rw [if_neg hb]; exact ev_div ra rb hb
  have rsh : Rg (a.fdiv (2 ^ sh64 b)) := fdiv_rng ra _
  have sa := decT_size ra
  have sb := decT_size rb
  have hev := Lib.hid (fun (L : List Vr) (hl : L.length ≤ 1000) (hz : ∀ v ∈ L, v.name.size ≤ 1000 ∧ v.val.size ≤ 1000) (w : World) (g : Nat) (hb : Blk w g 32 (L.flatMap vrcs).toArray) (s : ByteArray) (n e : Int) (S : List (ByteArray × I64)) (hv : evalM s L = (n, S, e)) (hs : s.size ≤ 100000) (W : World) (hbel : Below w.heap.size w W) => ev_in hb hl hz hs hv W hbel)
  obtain ⟨EV, hEV⟩ : ∃ EV, evalM = EV := ⟨_, rfl⟩
  rw [hEV] at e1 e2 e3 hev o_add o_sub o_mul o_and o_or o_xor o_inv o_neg o_shl o_shr
  clear hEV
  obtain ⟨D, hD⟩ : ∃ D, decT = D := ⟨_, rfl⟩
  rw [hD] at sa sb e1 e2 e3 hdd o_add o_sub o_mul o_and o_or o_xor o_inv o_neg o_shl o_shr
  clear hD
  obtain ⟨hk, hk64⟩ := sh64_is b
  have hand := and63 b
  rw [← hk] at hand
  obtain ⟨k, hkk⟩ : ∃ k, sh64 b = k := ⟨_, rfl⟩
  rw [hkk] at hand hk64 o_shl o_shr rsh
  clear hk hkk
  rw [Int.fdiv_eq_ediv_of_nonneg _ (Int.le_of_lt (Int.pow_pos (by decide)))] at o_shr rsh
  have hkw : IntKind.u64.wrap (k : Int) = (k : Int) := by
    simp only [IntKind.wrap, IntKind.bits, IntKind.signed]
    simp
    omega
  have hmin : min k 64 = k := by omega
  have hshl := fun w => shl_run a k hk64 w
  have hshr := fun w => shr_run a k hk64 w
  have hz : ∀ v ∈ two (D a) (D b), v.name.size ≤ 1000 ∧ v.val.size ≤ 1000 := fun v hv => by
    rcases List.mem_cons.1 hv with rfl | hv
    · exact ⟨show 1 ≤ 1000 by omega, Nat.le_trans sa (by omega)⟩
    · obtain rfl := List.mem_singleton.1 hv
      exact ⟨show 1 ≤ 1000 by omega, Nat.le_trans sb (by omega)⟩
  have hzH := Lib.hid hz
  clear hz sa sb
  have hk64H := Lib.hid hk64
  clear hk64
  have hmm : ∀ (t : TypeId) (w : World), (Instr.makeMap t none).run Tryz.prog w = .ok (.map (some w.heap.size)) (w.alloc (.map #[] 0)) := fun _ _ => rfl
  go_enter Tryz.func4, Tryz.ntmps4
  go_upto_region 4 with (first | (go_at_call 7; refine haw.out.mono ?_; rintro e w1 ⟨rfl, hb1⟩; have hb1H := Lib.hid hb1; clear hb1) | (go_at_call 10; refine (hdd.out _ (by assumption) _).mono ?_; rintro e w2 ⟨rfl, hb2⟩; have hb2H := Lib.hid hb2; clear hb2))
  rename_i w2a hb2aH _ _ _ _
  have hsz := hb1H.out.size
  have hsza := hb2aH.out.size
  have hbl := Blk.new w2 32 #[.string ⟨#[97]⟩, .string (D a), .bool false, .bool false, .bool false, .string ⟨#[98]⟩, .string (D b), .bool false, .bool false, .bool false]
  have hbn := Lib.hid ((hb1H.out.trans (hb2aH.out.mono hsz)).trans ((hb2H.out.mono (Nat.le_trans hsz hsza)).trans ((alB w2 (.cells #[.string ⟨#[97]⟩, .string (D a), .bool false, .bool false, .bool false, .string ⟨#[98]⟩, .string (D b), .bool false, .bool false, .bool false] 32)).mono (Nat.le_trans hsz (Nat.le_trans hsza hb2H.out.size)))))
  clear hsz hsza
  obtain ⟨G, hG⟩ : ∃ G, w2.heap.size = G := ⟨_, rfl⟩
  rw [hG] at hbl
  rw [hG]
  obtain ⟨w3, hw3⟩ : ∃ w3, w2.alloc (.cells #[.string ⟨#[97]⟩, .string (D a), .bool false, .bool false, .bool false, .string ⟨#[98]⟩, .string (D b), .bool false, .bool false, .bool false] 32) = w3 := ⟨_, rfl⟩
  rw [hw3] at hbl hbn
  rw [hw3]
  have hE := Lib.hid (hev.out (two (D a) (D b)) (by show 2 ≤ 1000; omega) hzH.out w3 G (by rw [flat2]; exact hbl))
  clear hev hbl hw3 hG
  -- the map
  obtain ⟨m, hm⟩ : ∃ m, w3.heap.size = m := ⟨_, rfl⟩
  have hM0 : MapG EV (two (D a) (D b)) (w3.alloc (.map #[] 0)) m 0 := ⟨_, by rw [← hm]; exact MapN.made 2 w3, fun y c h => by cases h⟩
  have hG0 : Below m w3 (w3.alloc (.map #[] 0)) := by rw [← hm]; exact alB _ _
  have hmlt : m < (w3.alloc (.map #[] 0)).heap.size := by simp [hm]
  obtain ⟨m1, hr1, hM1, hg1⟩ := hM0.put (by omega) o_add (by decide) (rg_wrap _)
  obtain ⟨m2, hr2, hM2, hg2⟩ := hM1.put (by omega) o_sub (by decide) (rg_wrap _)
  obtain ⟨m3, hr3, hM3, hg3⟩ := hM2.put (by omega) o_mul (by decide) (rg_wrap _)
  obtain ⟨m4, hr4, hM4, hg4⟩ := hM3.put (by omega) o_and (by decide) (rg_bits _ _ _ ⟨_, rfl⟩)
  obtain ⟨m5, hr5, hM5, hg5⟩ := hM4.put (by omega) o_or (by decide) (rg_bits _ _ _ ⟨_, rfl⟩)
  obtain ⟨m6, hr6, hM6, hg6⟩ := hM5.put (by omega) o_xor (by decide) (rg_bits _ _ _ ⟨_, rfl⟩)
  obtain ⟨m7, hr7, hM7, hg7⟩ := hM6.put (by omega) o_inv (by decide) (rg_bits _ _ _ ⟨_, rfl⟩)
  obtain ⟨m8, hr8, hM8, hg8⟩ := hM7.put (by omega) o_neg (by decide) (rg_wrap _)
  obtain ⟨m9, hr9, hM9, hg9⟩ := hM8.put (by omega) o_shl (by decide) (rg_wrap _)
  obtain ⟨m10, hr10, hM10, hg10⟩ := hM9.put (by omega) o_shr (by decide) (rsh)
  have hMM := Lib.hid hM10
  have hGG : Below m w3 m10 ∧ m < m10.heap.size := by
    have hm0 : m ≤ (w3.alloc (.map #[] 0)).heap.size := Nat.le_of_lt hmlt
    have hm1 := Nat.le_trans hm0 hg1.size
    have hm2 := Nat.le_trans hm1 hg2.size
    have hm3 := Nat.le_trans hm2 hg3.size
    have hm4 := Nat.le_trans hm3 hg4.size
    have hm5 := Nat.le_trans hm4 hg5.size
    have hm6 := Nat.le_trans hm5 hg6.size
    have hm7 := Nat.le_trans hm6 hg7.size
    have hm8 := Nat.le_trans hm7 hg8.size
    have hm9 := Nat.le_trans hm8 hg9.size
    have hm10 := Nat.le_trans hm9 hg10.size
    exact ⟨((((((((((hG0.trans (gr_below hg1 hm0 (Nat.le_refl _))).trans (gr_below hg2 hm1 (Nat.le_refl _))).trans (gr_below hg3 hm2 (Nat.le_refl _))).trans (gr_below hg4 hm3 (Nat.le_refl _))).trans (gr_below hg5 hm4 (Nat.le_refl _))).trans (gr_below hg6 hm5 (Nat.le_refl _))).trans (gr_below hg7 hm6 (Nat.le_refl _))).trans (gr_below hg8 hm7 (Nat.le_refl _))).trans (gr_below hg9 hm8 (Nat.le_refl _))).trans (gr_below hg10 hm9 (Nat.le_refl _))), Nat.lt_of_lt_of_le hmlt (Nat.le_trans hg1.size (Nat.le_trans hg2.size (Nat.le_trans hg3.size (Nat.le_trans hg4.size (Nat.le_trans hg5.size (Nat.le_trans hg6.size (Nat.le_trans hg7.size (Nat.le_trans hg8.size (Nat.le_trans hg9.size (hg10.size))))))))))⟩
  have hGGH := Lib.hid hGG
  clear hGG hM1 hg1 hM2 hg2 hM3 hg3 hM4 hg4 hM5 hg5 hM6 hg6 hM7 hg7 hM8 hg8 hM9 hg9 hM10 hg10 hM0 hG0 hmlt o_add o_sub o_mul o_and o_or o_xor o_inv o_neg o_shl o_shr rsh
  have hR1 := Lib.hid hr1
  have hR2 := Lib.hid hr2
  have hR3 := Lib.hid hr3
  have hR4 := Lib.hid hr4
  have hR5 := Lib.hid hr5
  have hR6 := Lib.hid hr6
  have hR7 := Lib.hid hr7
  have hR8 := Lib.hid hr8
  have hR9 := Lib.hid hr9
  have hR10 := Lib.hid hr10
  clear hr1 hr2 hr3 hr4 hr5 hr6 hr7 hr8 hr9 hr10
  obtain ⟨V, ⟨D0, hown, hat0, hhas0⟩, hV⟩ := hMM.out
  have hownH := Lib.hid hown
  have hat0H := Lib.hid hat0
  have hhas0H := Lib.hid hhas0
  have hVH := Lib.hid hV
  clear hMM hown hat0 hhas0 hV
  go_wp2_with (first
    | (rw [hR1.out]; simp only [Result.andThen_ok]) | (rw [hR2.out]; simp only [Result.andThen_ok]) | (rw [hR3.out]; simp only [Result.andThen_ok]) | (rw [hR4.out]; simp only [Result.andThen_ok]) | (rw [hR5.out]; simp only [Result.andThen_ok])
    | (rw [hR6.out]; simp only [Result.andThen_ok]) | (rw [hR7.out]; simp only [Result.andThen_ok]) | (rw [hR8.out]; simp only [Result.andThen_ok]) | (rw [hR9.out]; simp only [Result.andThen_ok]) | (rw [hR10.out]; simp only [Result.andThen_ok])
    | (at_range; refine wpList_range_own _ rfl _ 34 rfl 9 2 keyed Tryz.underlying34 _ m 10 _ rfl hownH.out ?_; intro w0 hrg0 hg0 hs0))
  go_frame
  have hrm : m < m10.heap.size := hGGH.out.2
  have hmH := Lib.hid hm
  have hb0H := Lib.hid (show Below m w3 w0 from hGGH.out.1.trans ⟨hg0.os, hg0.tape, hg0.output, hg0.size, fun g hg => hg0.block g (by omega) (by simp)⟩)
  have hrgH := Lib.hid hrg0
  obtain ⟨r, hr⟩ : ∃ r, m10.heap.size = r := ⟨_, rfl⟩
  rw [hr] at hrgH hrm
  rw [hr]
  have hrmH := Lib.hid hrm
  clear hR1 hR2 hR3 hR4 hR5 hR6 hR7 hR8 hR9 hR10 hrg0 hg0 hs0 hrm hm hr hGGH hand hkw hshl hshr hmin
  go_loopw [6] (fun _ wr => ∃ (left : Lit → Bool) (cnt : Nat), wr.ranges Tryz.prog 9 (plainElem (H := Unit) Tryz.prog 2) m r 10 D0 left cnt ∧ Hid ((∀ z, left z = true → Maps.has D0 z = true) ∧ Below m w3 wr)) (fun _ wr => wr.rangeLeft m r)
  case atStart => exact ⟨_, _, hrgH.out, Lib.hid ⟨fun z h => h, hb0H.out⟩⟩
  case round =>
    obtain ⟨left, cnt, hrg, hI⟩ := hrel
    have hrgH2 := Lib.hid hrg
    clear hrg
    go_wp2_with (at_next; refine wpList_next_ranges _ rfl _ rfl 9 keyed (plainElem (H := Unit) Tryz.prog 2) (fun s : ByteArray => Value.string s) (fun c : Int => Value.int .i64 c) (fun key q hkey => by obtain ⟨x, rfl, _⟩ := keyOf_str_inv Tryz.underlying9 hkey; exact ⟨x, rfl⟩) (fun v y hv => by obtain ⟨c, rfl, _⟩ := plainElem_int_inv und2 hv; exact ⟨c, rfl⟩) m r 10 D0 left cnt rfl hrgH2.out ?_ ?_)
    · intro hc0 hl0
      have hcur := Lib.hid (show Below w3.heap.size w3 wr by rw [hmH.out]; exact hI.out.2)
      obtain ⟨d1, hd1⟩ : ∃ d, decide (a < b) = d := ⟨_, rfl⟩
      obtain ⟨d2, hd2⟩ : ∃ d, (a == b) = d := ⟨_, rfl⟩
      obtain ⟨n1, hn1⟩ : ∃ n : Int, (if a < b then 1 else 0) = n := ⟨_, rfl⟩
      obtain ⟨n2, hn2⟩ : ∃ n : Int, (if a = b then 1 else 0) = n := ⟨_, rfl⟩
      have q1 : (n1 == 1) = d1 := by
        rw [← hn1, ← hd1]
        by_cases h : a < b
        · rw [if_pos h, decide_eq_true h]; rfl
        · rw [if_neg h, decide_eq_false h]; rfl
      have q2 : (n2 == 1) = d2 := by
        rw [← hn2, ← hd2]
        by_cases h : a = b
        · rw [if_pos h, beq_iff_eq.2 h]; rfl
        · rw [if_neg h, beq_eq_false_iff_ne.2 h]; rfl
      rw [hn1] at e1
      rw [hn2] at e2
      clear hn1 hn2 hI hrgH2 hc0 hl0
      by_cases hb0 : b = 0
      all_goals
        first | rw [if_pos hb0] at e3 | rw [if_neg hb0] at e3
        first | have qb : (b == 0) = true := beq_iff_eq.2 hb0 | have qb : (b == 0) = false := beq_eq_false_iff_ne.2 hb0
        clear hb0
        go_wp2_with (first
          | (go_at_call 8; refine (hE.out _ _ _ _ e3 (by decide) _ hcur5.out).mono ?_; rintro r w6 ⟨sv, rfl, hrow, hb⟩; obtain ⟨a6, c6, rfl⟩ := row_ge0 hrow; have hcur6 := Lib.hid (hcur5.out.trans (hb.mono hcur5.out.size)); clear hrow hb)
          | (go_at_call 8; refine (hE.out _ _ _ _ e2 (by decide) _ hcur4.out).mono ?_; rintro r w5 ⟨sv, rfl, hrow, hb⟩; obtain ⟨a5, c5, rfl⟩ := row_ge0 hrow; have hcur5 := Lib.hid (hcur4.out.trans (hb.mono hcur4.out.size)); clear hrow hb)
          | (go_at_call 8; refine (hE.out _ _ _ _ e1 (by decide) _ hcur.out).mono ?_; rintro r w4 ⟨sv, rfl, hrow, hb⟩; obtain ⟨a4, c4, rfl⟩ := row_ge0 hrow; have hcur4 := Lib.hid (hcur.out.trans (hb.mono hcur.out.size)); clear hrow hb))
        go_ret
        exact ⟨rfl, hbn.out.trans (hcur6.out.mono hbn.out.size)⟩
    · intro x c q y1 y2 w4 cnt1 hkey hlk hv hat hrg1 hlt hg1 hs1 hen
      obtain ⟨x', hx', hq⟩ := keyOf_str_inv Tryz.underlying9 hkey
      obtain rfl : x = x' := by simpa using hx'
      subst hq
      obtain ⟨c', hc', hy, _⟩ := plainElem_int_inv und2 hv
      obtain rfl : c = c' := by simpa using hc'
      have h1 := hhas0H.out x
      rw [hI.out.1 _ hlk] at h1
      have h2 := hat (.lit (.int .i64 0))
      obtain ⟨rfl, rfl⟩ := Prod.mk.inj hy
      rw [hat0H.out x] at h2
      have hVx : V x = some c := by
        cases hq : V x with
        | none => rw [hq] at h1; exact absurd h1 (by decide)
        | some c0 => rw [hq] at h2; simpa using h2
      obtain ⟨hEx, hxs⟩ := hVH.out x c hVx
      have hb4 : Below m w3 w4 := hI.out.2.trans (gr_below hg1 (Nat.le_trans (Nat.le_of_eq hmH.out.symm) hI.out.2.size) (Nat.le_of_lt hrmH.out))
      have hb4H := Lib.hid hb4
      have hleft := Lib.hid hI.out.1
      have hrg1H := Lib.hid hrg1
      have hltH := Lib.hid hlt
      clear hb4 hI hrg1 hlt hkey hlk hv hat hg1 hs1 h1 h2 hVx hc' hx' hy
      go_wp2_with (go_at_call 8; refine (hE.out _ _ _ _ hEx (Nat.le_trans hxs (by decide)) _ (by rw [hmH.out]; exact hb4H.out)).mono ?_; rintro r w5 ⟨sv, rfl, hrow, hb⟩; obtain ⟨a1, c1, rfl⟩ := row_ge0 hrow; have hbH := Lib.hid hb; clear hrow hb)
      have hg5 : w4.grownBy w5 none := ⟨hbH.out.os, hbH.out.tape, hbH.out.output, hbH.out.size, fun g hg _ => hbH.out.block g hg⟩
      have hrg5 := hrg1H.out.kept hg5 (by simp) (by simp)
      have hrg5H := Lib.hid hrg5
      clear hg5 hrg5
      go_roundw
      case rel => exact ⟨_, _, hrg5H.out, Lib.hid ⟨fun z hz => hleft.out z (Bool.and_eq_true_iff.1 hz).1, hb4H.out.trans (hbH.out.mono (Nat.le_trans (Nat.le_of_eq hmH.out.symm) hb4H.out.size))⟩⟩
      case measure => rw [hrg5H.out.left_eq, hrgH2.out.left_eq]; exact hltH.out
end Go.Proofs.YtjbmpockoicgmaaGreat
