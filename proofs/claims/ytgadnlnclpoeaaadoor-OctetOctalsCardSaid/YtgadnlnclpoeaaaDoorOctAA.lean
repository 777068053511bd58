/- The library's numbers of base 8. Condition: the library's table of de Bruijn lies as it was laid (Bit8). -/
import Derived.Test.YtgadnlnclpoeaaaDoorOctF
import Derived.Test.YtgadnlnclpoeaaaDoorOctN
import Derived.Laws.IdiomStrings
import Derived.Laws.Bits64b
import Derived.Lib.TrailingZeros
namespace Go.Proofs.YtgadnlnclpoeaaaDoor
open Go.RowKit Go.PlainAid

/-- The one cell of the library's table that is read. -/
def Bit8 (w : World) : Prop := w.cell? ⟨7, 7, none⟩ = some (.int .u8 3)

theorem Bit8.below {w w' : World} {n : Nat} (h : Bit8 w) (hb : Below n w w') (hn : 8 ≤ n) : Bit8 w' := (hb.cell (p := ⟨7, 7, none⟩) (by show 7 < n; omega)).trans h
theorem Bit8.size {w : World} (h : Bit8 w) : 8 ≤ w.heap.size := Lib.lt_of_cell h

theorem gBit : Tryd.prog.globalNamed "math/bits.deBruijn64tab" = some 7 := by kernel_rfl
theorem tBit : (Tryd.prog.globals[7]?).map (·.type) = some 102 := by kernel_rfl
theorem bit8_of {W : World} (h : laidMetH Tryd.prog lst W) : Bit8 W := by
  rw [MakeChecks.laidMetH_plain _ _ _ (by kernel_rfl)] at h
  unfold lst Rows.octetNamesRow at h
  have h1 := h.tail
  have ht := Lib.tabIs_of_head (k := .u8) (zs := Lib.deBruijn64tab.map fun (n : Nat) => (n : Int)) gBit tBit Tryd.underlying102 Tryd.underlying5 (by kernel_rfl) (by kernel_rfl) h1
  have h0 := ht.cell gBit 7 (by decide)
  exact h0

set_option maxHeartbeats 400000 in
theorem tz8 (w : World) (h : Bit8 w) : Calls Tryd.prog 61 #[.int .u64 8] w fun e w' => e = .returned (.int .i64 3) ∧ w = w' := by
  unfold Bit8 at h
  have key : IntKind.u64.wrap (bits BinOp.and IntKind.u64 8 (IntKind.u64.wrap (-8)) * 285870213051353865) / 288230376151711744 = 7 := by decide +kernel
  go_enter Tryd.func61, Tryd.ntmps61
  go_wp2
  go_ret
  exact ⟨rfl, rfl⟩

theorem pow8 (w : World) : Calls Tryd.prog 60 #[.int .i64 8] w fun e w' => e = .returned (.bool true) ∧ w = w' := by
  go_enter Tryd.func60, Tryd.ntmps60
  go_wp2
  go_ret
  exact ⟨rfl, rfl⟩

/-- The numeral of base 8. -/
def oct : Nat → List UInt8
  | u => if u < 8 then [UInt8.ofNat (48 + u)] else oct (u / 8) ++ [UInt8.ofNat (48 + u % 8)]
termination_by u => u
decreasing_by omega
theorem oct_lt {u : Nat} (h : u < 8) : oct u = [UInt8.ofNat (48 + u)] := by rw [oct, if_pos h]
theorem oct_ge {u : Nat} (h : ¬ u < 8) : oct u = oct (u / 8) ++ [UInt8.ofNat (48 + u % 8)] := by rw [oct, if_neg h]

def zeros65 : Array Value := (Array.range 65).map fun _ => .int .u8 0
theorem zero81 (w : World) : (zeroValue 81).run Tryd.prog w = .ok (.agg zeros65) w := by kernel_rfl
theorem zeros65_size : zeros65.size = 65 := by simp [zeros65]

/-- The row of digits: from place k on they lie. -/
def Row8 (w : World) (A k : Nat) (l : List UInt8) : Prop :=
  k + l.length = 65 ∧ (∀ j (h : j < l.length), w.cell? ⟨A, k + j, none⟩ = some (.int .u8 (l[j].toNat : Int))) ∧ (∀ j, j < k → w.cell? ⟨A, j, none⟩ = some (.int .u8 0)) ∧ ∀ j, w.frozen? ⟨A, j, none⟩ = false

def digits36 : ByteArray := ⟨#[48, 49, 50, 51, 52, 53, 54, 55, 56, 57, 97, 98, 99, 100, 101, 102, 103, 104, 105, 106, 107, 108, 109, 110, 111, 112, 113, 114, 115, 116, 117, 118, 119, 120, 121, 122]⟩

theorem dval8 (d : Nat) (h : d < 8) (h' : d < digits36.size) : ((digits36[d]'h').toNat : Int) = 48 + (d : Int) := by
  have : d = 0 ∨ d = 1 ∨ d = 2 ∨ d = 3 ∨ d = 4 ∨ d = 5 ∨ d = 6 ∨ d = 7 := by omega
  rcases this with rfl | rfl | rfl | rfl | rfl | rfl | rfl | rfl <;> rfl
theorem pow_len {U u n : Nat} (hu : u < 9223372036854775808) (h : U * 8 ^ n ≤ u) (h1 : 1 ≤ U) : n < 21 := by
  rcases Nat.lt_or_ge n 21 with g | g
  · exact g
  · have h2 : 8 ^ 21 ≤ 8 ^ n := Nat.pow_le_pow_right (by omega) g
    have h3 : 1 * 8 ^ n ≤ U * 8 ^ n := Nat.mul_le_mul_right _ h1
    omega
theorem pow_step {U u n : Nat} (h : U * 8 ^ n ≤ u) : U / 8 * 8 ^ (n + 1) ≤ u := by
  have h1 : U / 8 * 8 ≤ U := Nat.div_mul_le_self U 8
  have h2 : U / 8 * 8 * 8 ^ n ≤ U * 8 ^ n := Nat.mul_le_mul_right _ h1
  rw [Nat.pow_succ, Nat.mul_comm (8 ^ n) 8, ← Nat.mul_assoc]
  omega
theorem and7 (u : Nat) (h : u < 18446744073709551616) : bits BinOp.and IntKind.u64 (u : Int) 7 = ((u % 8 : Nat) : Int) := by
  have := bits_and_u64_nat u 7 h (by omega)
  have e : u &&& 7 = u % 8 := Nat.and_two_pow_sub_one_eq_mod u 3
  rw [e] at this
  exact this
theorem slice81 (A k : Nat) (hk : k < 65) (w : World) : (Instr.sliceAt 81 (.pointer (some ⟨A, 0, none⟩)) (some (.int .i64 (k : Int))) none none).run Tryd.prog w = .ok (.slice (some ⟨A, k, none⟩) (65 - k) (65 - k)) w := by
  have hal : Tryd.prog.arrayLen 81 = 65 := by kernel_rfl
  rw [run_sliceAt_array_l w 81 ⟨A, 0, none⟩ (by kernel_rfl) .i64 k (by omega) (by rw [hal]; omega)]
  go_simp
  omega

theorem row8_made (w : World) : Row8 (w.alloc (.cells zeros65 81)) w.heap.size 65 [] := by
  refine ⟨rfl, fun j h => absurd h (by simp), fun j hj => ?_, fun j => World.frozen?_alloc_new _ _ _ _⟩
  rw [World.cell?_alloc_new]
  simp [zeros65, hj]
theorem row8_set {w : World} {A k : Nat} {l : List UInt8} (h : Row8 w A (k + 1) l) (d : Nat) (hd : d < 8) : Row8 (w.setCell ⟨A, k, none⟩ (.int .u8 (48 + (d : Int)))) A k (UInt8.ofNat (48 + d) :: l) := by
  obtain ⟨h1, h2, h3, h4⟩ := h
  have hn : (UInt8.ofNat (48 + d)).toNat = 48 + d := UInt8.toNat_ofNat_of_lt' (by show 48 + d < 256; omega)
  refine ⟨by simp; omega, fun j hj => ?_, fun j hj => ?_, fun j => by rw [World.frozen?_setCell]; exact h4 j⟩
  · cases j with
    | zero =>
      rw [Nat.add_zero, World.cell?_setCell_same _ _ _ (h3 k (by omega))]
      simp only [List.getElem_cons_zero, hn]
      rfl
    | succ j =>
      rw [World.cell?_setCell_other _ _ _ _ (by simp), show k + (j + 1) = k + 1 + j by omega, List.getElem_cons_succ]
      exact h2 j (by simpa using hj)
  · rw [World.cell?_setCell_other _ _ _ _ (by simp <;> omega)]
    exact h3 j (by omega)
theorem conv8 {w : World} {A k : Nat} {l : List UInt8} (h : Row8 w A k l) : (convert 42 9 (.slice (some ⟨A, k, none⟩) (65 - k) (65 - k))).run Tryd.prog w = .ok (.string ⟨l.toArray⟩) w := by
  obtain ⟨h1, h2, _, _⟩ := h
  have := run_convert_bytes_back (P := Tryd.prog) w 42 9 5 ⟨A, k, none⟩ (65 - k) l Tryd.underlying42 Tryd.underlying5 Tryd.underlying9 (fun j hj => by
    have := h2 j hj
    rw [← this, Lib.add_plain])
  rw [show l.length = 65 - k by omega] at this
  exact this

set_option maxRecDepth 100000 in
set_option maxHeartbeats 1000000 in
theorem bits8_any (u : Nat) (hu : u < 9223372036854775808) (w : World) (h : Bit8 w) :
    Calls Tryd.prog 44 #[.slice none 0 0, .int .u64 u, .int .i64 8, .bool false, .bool false] w fun e w' => e = .returned (.tuple #[.slice none 0 0, .string ⟨(oct u).toArray⟩]) ∧ Below w.heap.size w w' := by
  have hz := zero81
  have hzs := zeros65_size
  have h8 := h.size
  have hA : Hid (Bit8 (w.alloc (.cells zeros65 81))) := Lib.hid (h.below ((Below.refl w.heap.size w).alloc (Nat.le_refl _) _) h8)
  clear h
  go_enter Tryd.func44, Tryd.ntmps44
  go_wp2_with (first
    | (go_at_call 60; refine (pow8 _).mono ?_; rintro e w1 ⟨rfl, rfl⟩)
    | (go_at_call 61; refine (tz8 _ hA.out).mono ?_; rintro e w1 ⟨rfl, rfl⟩))
  obtain ⟨A, hAe⟩ : ∃ A, w.heap.size = A := ⟨_, rfl⟩
  have hR0 : Row8 (w.alloc (.cells zeros65 81)) A 65 [] := by rw [← hAe]; exact row8_made w
  have hB0 : Below A w (w.alloc (.cells zeros65 81)) := by rw [← hAe]; exact (Below.refl _ _).alloc (Nat.le_refl _) _
  rw [hAe]
  have hAH := Lib.hid hAe
  clear hz hzs hA hAe
  go_loopw [1, 13] (fun s1 s13 wr => ∃ (U k : Nat) (l : List UInt8), s1 = .int .u64 (U : Int) ∧ s13 = .int .i64 (k : Int) ∧ U ≤ u ∧ Hid (U * 8 ^ l.length ≤ u) ∧ Hid (l = [] ∨ 1 ≤ U) ∧ Row8 wr A k l ∧ Hid (oct u = oct U ++ l) ∧ Below A w wr) (fun s1 _ _ => (intOf s1).toNat)
  case atStart => exact ⟨u, 65, [], rfl, rfl, Nat.le_refl _, Lib.hid (by simp), Lib.hid (.inl rfl), hR0, Lib.hid (by simp), hB0⟩
  case round =>
    obtain ⟨U, k, l, rfl, rfl, hU, hpow, hne, hR, hoct, hB⟩ := hrel
    have hkl := hR.1
    have hRH := Lib.hid hR
    have hBH := Lib.hid hB
    have hk : 1 ≤ k := by
      rcases hne.out with rfl | h1
      · simp at hkl; omega
      · have := pow_len hu hpow.out h1; omega
    obtain ⟨K, rfl⟩ : ∃ K, k = K + 1 := ⟨k - 1, by omega⟩
    have hc := hR.2.2.1 K (by omega)
    have hf := hR.2.2.2 K
    clear hR hB hR0 hB0
    have hK65 : (K : Int) < 65 := by omega
    by_cases hge : 8 ≤ U
    · have ha := and7 U (by omega)
      have hge' : (8 : Int) ≤ (U : Int) := by omega
      go_wp2
      go_roundw
      case rel =>
        have e := dval8 (U % 8) (by omega) (by show U % 8 < 36; omega)
        have r := row8_set hRH.out (U % 8) (by omega)
        rw [← e] at r
        exact ⟨U / 8, K, UInt8.ofNat (48 + U % 8) :: l, by go_num, by go_num, by omega, Lib.hid (pow_step hpow.out), Lib.hid (.inr (by omega)), r, Lib.hid (by rw [hoct.out, oct_ge (by omega), List.append_assoc]; rfl), hBH.out.setCell (p := ⟨A, K, none⟩) (Nat.le_refl _) _⟩
      case measure => simp [intOf]; omega
    · have hge' : ¬ (8 : Int) ≤ (U : Int) := by omega
      have hU8 : U < 8 := by omega
      clear hge
      have hU36 : (U : Int) < 36 := by omega
      have hsl := slice81 A K (by omega)
      have r := row8_set hRH.out U (by omega)
      rw [← dval8 U hU8 (Nat.lt_of_lt_of_le hU8 (by decide))] at r
      have hcv := conv8 r
      unfold digits36 at hcv
      obtain ⟨X, hX⟩ : ∃ X : ByteArray, (⟨(UInt8.ofNat (48 + U) :: l).toArray⟩ : ByteArray) = X := ⟨_, rfl⟩
      rw [hX] at hcv
      have ho : Hid ((⟨(oct u).toArray⟩ : ByteArray) = X) := Lib.hid (by rw [hoct.out, oct_lt (by omega), ← hX]; rfl)
      clear hX
      clear r
      go_wp2
      go_ret2
      exact ⟨by rw [ho.out]; rfl, by rw [hAH.out]; exact hBH.out.setCell (p := ⟨A, K, none⟩) (Nat.le_refl _) _⟩
end Go.Proofs.YtgadnlnclpoeaaaDoor
