/- The contract of the document's Decimal. No condition. -/
import Derived.Test.YtnhbcmhinhncfaaGreatDoorQdA
import Derived.Lib.ItoaLen
import Derived.Laws.AppendOwn
import Derived.Laws.AppendOwnNone
import Derived.Laws.OwnMore
import Derived.Laws.IdiomStrings
import Derived.Below
namespace Go.Proofs.YtnhbcmhinhncfaaGreatDoor
open Go.RowKit Go.PlainAid
set_option linter.unusedVariables false
set_option linter.unusedSimpArgs false
theorem dig_ofD (d : Nat) (h : d < 10) : (UInt8.ofNat (48 + d)).toNat = 48 + d := by
  rw [UInt8.toNat_ofNat']; omega
theorem app_dataD (a b : ByteArray) : (a ++ b).data.toList = a.data.toList ++ b.data.toList := by simp [ByteArray.data_append]
theorem infoU8D : (Tryz.prog.info? 5).map (fun i => (i.zero, i.size, i.bytes)) = some (some (.int .u8 0), 1, 1) := by kernel_rfl

def bvals (l : List UInt8) : List Value := l.map fun c => .int .u8 (c.toNat : Int)

theorem tmod10 (q p d : Nat) (h : q = 10 * p + d) (hd : d < 10) : Int.tmod (-(q : Int)) 10 = -(d : Int) := by
  rw [Int.neg_tmod, Int.tmod_eq_emod_of_nonneg (by omega)]; omega
theorem tdiv10 (q p d : Nat) (h : q = 10 * p + d) (hd : d < 10) : Int.tdiv (-(q : Int)) 10 = -(p : Int) := by
  rw [Int.neg_tdiv, Int.tdiv_eq_ediv_of_nonneg (by omega)]; omega

theorem own_formD {w : World} {base : Nat} {e : TypeId} {size : Nat} {v : Value} {n : Nat} {xs : List Value} (h : w.ownsRow base e size v n xs) (hx : n ≠ 0) : ∃ g cap, v = .slice (some ⟨g, 0, none⟩) n cap ∧ base ≤ g ∧ g < w.heap.size := by
  rcases h.2 with ⟨rfl, hx'⟩ | ⟨g, cap, cur, rfl, hb, hc, _⟩
  · exact absurd hx' hx
  · refine ⟨g, cap, rfl, hb, ?_⟩
    rcases Nat.lt_or_ge g w.heap.size with hlt | hge
    · exact hlt
    · rw [Array.getElem?_eq_none hge] at hc; cases hc
theorem bvals_dig (d : Nat) (h : d < 10) (l : List UInt8) : bvals (UInt8.ofNat (48 + d) :: l) = [.int .u8 (48 + (d : Int))] ++ bvals l := by
  unfold bvals
  rw [List.map_cons, Go.Proofs.YtnhbcmhinhncfaaGreatDoor.dig_ofD d h]
  rfl
theorem bvals_len (l : List UInt8) : (bvals l).length = l.length := by unfold bvals; simp
theorem bvals_one (l : List UInt8) : ∀ u ∈ bvals l, u.oneCell' = true := by
  intro u hu
  unfold bvals at hu
  obtain ⟨c, _, rfl⟩ := List.mem_map.1 hu
  rfl
theorem dec_step {p r d : Nat} (h : p = 10 * r + d) (hd : d < 10) (hr : r ≠ 0) (l : List UInt8) : Lib.decDigits p ++ l = Lib.decDigits r ++ (UInt8.ofNat (48 + d) :: l) := by
  rw [Lib.decDigits, dif_neg (by omega), show p / 10 = r by omega, show p % 10 = d by omega]
  simp
theorem dec_last {p r d : Nat} (h : p = 10 * r + d) (hd : d < 10) (hr : r = 0) (l : List UInt8) : Lib.decDigits p ++ l = UInt8.ofNat (48 + d) :: l := by
  subst hr
  obtain rfl : p = d := by omega
  rw [Lib.decDigits, dif_pos hd]
  rfl
theorem dec_len (q : Nat) (h : q ≤ 9223372036854775808) : (Lib.decDigits q).length ≤ 21 := by
  by_cases h0 : q = 0
  · subst h0
    rw [Lib.decDigits, dif_pos (by decide)]; decide
  · have := Lib.itoa_length_le (-(q : Int)) (by omega) (by omega)
    rw [Lib.itoa_neg q (by omega)] at this
    simp at this; omega

set_option maxRecDepth 100000 in
set_option maxHeartbeats 1000000 in
theorem refDecimal_any (n : Int) (h0 : -9223372036854775808 ≤ n) (h1 : n ≤ 9223372036854775807) (w : World) :
    Calls Tryz.prog 14 #[.int .i64 n] w fun e w' => e = .returned (.string ⟨(Lib.itoa n).toArray⟩) ∧ Below w.heap.size w w' := by
  obtain ⟨i0, hi, hz0, hz1, hz2⟩ := info_parts infoU8D
  obtain ⟨B, hB⟩ : ∃ B, w.heap.size = B := ⟨_, rfl⟩
  rw [hB]
  have hBH := Lib.hid hB
  clear hB
  obtain ⟨q, hq⟩ : ∃ q : Nat, q = n.natAbs := ⟨_, rfl⟩
  have hqb : q ≤ 9223372036854775808 := by omega
  have hqH := Lib.hid hq
  clear hq
  go_enter Tryz.func14, Tryz.ntmps14
  go_upto_if 7 with fail
  go_cut [3] (fun s3 wx => s3 = .int .i64 (-(q : Int)) ∧ w = wx)
  case first =>
    by_cases hn : 0 < n
    · have e : -n = -(q : Int) := by have := hqH.out; omega
      have eH := Lib.hid e
      clear e
      go_wp2
      go_meet
      exact ⟨congrArg (Value.int .i64) eH.out, rfl⟩
    · have e : n = -(q : Int) := by have := hqH.out; omega
      have eH := Lib.hid e
      clear e
      go_wp2
      go_meet
      exact ⟨congrArg (Value.int .i64) eH.out, rfl⟩
  case rest =>
    obtain ⟨rfl, rfl⟩ := hcut
    go_wp2_with fail
    go_loopw [3, 4] (fun s3 s4 wr => ∃ (p : Nat) (l : List UInt8), p ≤ 9223372036854775808 ∧ s3 = .int .i64 (-(p : Int)) ∧ wr.ownsRow B 5 1 s4 l.length (bvals l) ∧ Hid (Lib.decDigits q = Lib.decDigits p ++ l) ∧ Below B w wr) (fun s3 _ _ => (-(intOf s3)).toNat)
    case atStart => exact ⟨q, [], hqb, rfl, World.ownsRow_nil _ _ _ _, Lib.hid (by simp), by rw [← hBH.out]; exact Below.refl _ _⟩
    case round =>
      obtain ⟨p, l, hpb, rfl, hown, hdig, hbel⟩ := hrel
      have hBw : B ≤ wr.heap.size := by have := hbel.size; rw [← hBH.out]; exact this
      have hll : l.length ≤ 21 := by
        have := dec_len q hqb
        rw [hdig.out, List.length_append] at this
        omega
      have hbelH := Lib.hid hbel
      clear hbel
      obtain ⟨d, hd⟩ : ∃ d, d = p % 10 := ⟨_, rfl⟩
      obtain ⟨r, hr⟩ : ∃ r, r = p / 10 := ⟨_, rfl⟩
      have hpd : p = 10 * r + d := by omega
      have hd10 : d < 10 := by omega
      have hm := tmod10 p r d hpd hd10
      have hv := tdiv10 p r d hpd hd10
      have hpdH := Lib.hid hpd
      have hrb : r ≤ 922337203685477580 := by omega
      have hown1 : Hid ((wr.alloc (.cells #[.int .u8 (48 + (d : Int))] 5)).ownsRow B 5 1 (.slice (some ⟨wr.heap.size, 0, none⟩) 1 1) 1 [.int .u8 (48 + (d : Int))]) := Lib.hid (World.ownsRow_lit wr #[.int .u8 (48 + (d : Int))] 1 hBw (by decide) rfl)
      have hbv := Lib.hid (bvals_dig d hd10 l)
      clear hpd hd hr
      go_upto_region 5 with fail
      go_cut [4] (fun s4 wx => wx.ownsRow B 5 1 s4 (1 + l.length) (bvals (UInt8.ofNat (48 + d) :: l)) ∧ Below B w wx)
      case first =>
        rcases hown.2 with ⟨rfl, hx⟩ | ⟨g, cap, cur, rfl, hcu⟩
        · have hl0 : l = [] := by
            cases l with
            | nil => rfl
            | cons a t => cases hx
          subst hl0
          clear hown hx
          go_wp2_with (at_builtin; refine wpList_append_own_none rfl (.tmp 14) (.tmp 15) 62 rfl B 5 i0 1 Tryz.underlying62 hi (.slice (some ⟨wr.heap.size, 0, none⟩) 1 1) 1 [.int .u8 (48 + (d : Int))] rfl hown1.out rfl ?_)
          go_meet
          exact ⟨by rw [hbv.out]; exact hown1.out, hbelH.out.alloc hBw _⟩
        · have hownH := Lib.hid (hown.alloc (.cells #[.int .u8 (48 + (d : Int))] 5))
          have hcl := Lib.hid (hownH.out.cells (g := g) rfl)
          clear hown hcu
          go_wp2_with (at_builtin; refine wpList_append_own _ rfl (.tmp 14) (.tmp 15) 62 rfl B 5 i0 (.int .u8 0) 1 1 Tryz.underlying62 hi hz0 hz1 hz2 rfl (by decide) (.slice (some ⟨wr.heap.size, 0, none⟩) 1 1) 1 [.int .u8 (48 + (d : Int))] rfl hown1.out ⟨g, 0, none⟩ l.length cap (bvals l) rfl (by rw [bvals_len]; omega) hcl.out (bvals_one l) (by unfold maxLen; omega) (by omega) (by simp; omega) ?_)
          intro v' w1 hown' hgrow _
          have h1 := Lib.hid hown'
          have h2 := Lib.hid hgrow
          clear hown' hgrow
          go_wp2
          go_meet
          refine ⟨by rw [hbv.out]; exact h1.out, (hbelH.out.alloc hBw _).grown h2.out (by simp; omega) (fun k hk => ?_)⟩
          have : k = wr.heap.size := by simpa [Value.ownBlock] using hk.symm
          omega
      case rest =>
        obtain ⟨ho, hb2⟩ := hcut
        obtain ⟨g, cap, rfl, _, _⟩ := own_formD ho (by omega)
        have hb2H := Lib.hid hb2
        by_cases hr0 : r = 0
        · have hl := Lib.hid (hdig.out.trans (dec_last hpdH.out hd10 hr0 l))
          have hcv : (convert 62 9 (.slice (some ⟨g, 0, none⟩) (1 + l.length) cap)).run Tryz.prog wc = .ok (.string ⟨(UInt8.ofNat (48 + d) :: l).toArray⟩) wc := by
            have := run_convert_bytes_back wc 62 9 5 ⟨g, 0, none⟩ cap (UInt8.ofNat (48 + d) :: l) Tryz.underlying62 Tryz.underlying5 Tryz.underlying9 (fun j hj => ho.cells (g := g) rfl j _ (by
              unfold bvals; rw [List.getElem?_map, List.getElem?_eq_getElem hj]; rfl))
            rw [List.length_cons, Nat.add_comm] at this
            exact this
          have hz : (-(r : Int) == 0) = true := by rw [hr0]; rfl
          have hsz : (⟨(UInt8.ofNat (48 + d) :: l).toArray⟩ : ByteArray).size ≤ 22 := by
            show (UInt8.ofNat (48 + d) :: l).toArray.size ≤ 22
            simp; omega
          generalize hX : (⟨(UInt8.ofNat (48 + d) :: l).toArray⟩ : ByteArray) = X at hcv hsz
          have hXH := Lib.hid hX
          have z1 : ¬ 9223372036854775807 < 1 + X.size := by omega
          clear ho hb2 hX hr0 hown hsz
          by_cases hn : n < 0
          · go_wp2
            go_ret
            refine ⟨congrArg (fun x => Ending.returned (.string x)) ?_, hb2H.out⟩
            rw [← hXH.out]
            apply ba_data
            rw [app_dataD]
            show [45] ++ (UInt8.ofNat (48 + d) :: l) = Lib.itoa n
            unfold Lib.itoa
            rw [if_pos hn, ← hqH.out, hl.out]; rfl
          · go_wp2
            go_ret
            refine ⟨congrArg (fun x => Ending.returned (.string x)) ?_, hb2H.out⟩
            rw [← hXH.out]
            apply ba_data
            show (UInt8.ofNat (48 + d) :: l) = Lib.itoa n
            unfold Lib.itoa
            rw [if_neg (by omega), show n.toNat = q by have := hqH.out; omega, hl.out]
        · have hl := Lib.hid (hdig.out.trans (dec_step hpdH.out hd10 hr0 l))
          have hz : (-(r : Int) == 0) = false := by rw [beq_eq_false_iff_ne]; omega
          have hoH := Lib.hid ho
          clear ho hb2 hown
          go_wp2
          go_roundw
          case rel => exact ⟨r, UInt8.ofNat (48 + d) :: l, by omega, rfl, by rw [List.length_cons, Nat.add_comm l.length 1]; exact hoH.out, hl, hb2H.out⟩
          case measure => simp [intOf]; have := hpdH.out; omega
end Go.Proofs.YtnhbcmhinhncfaaGreatDoor
