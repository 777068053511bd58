/- GateOffsets: the walk of the law. No condition. -/
import Derived.Test.YtmilagppbepnbaaGreatKhJ
import Derived.Laws.DeepStrings4
import Derived.ProofKit
namespace Go.Proofs.YtmilagppbepnbaaGreat.Kn
open Go.RowKit Go.PlainAid
set_option linter.unusedVariables false
set_option linter.unusedSimpArgs false
attribute [local go_sem] Oper.semAt_some
/-- A list of numbers that came in. -/
def IntsAt (n0 : Nat) (w : World) (A : Option Addr) (len : Nat) : Prop :=
  len ≤ maxLen ∧ ∀ i, i < len → ∃ (b off : Nat) (v : Int), A = some ⟨b, off, none⟩ ∧ b < n0 ∧ w.cell? ⟨b, off + i, none⟩ = some (.int .i64 v) ∧ (-9223372036854775808 ≤ v ∧ v ≤ 9223372036854775807)
theorem IntsAt.below {n0 len : Nat} {w w' : World} {A : Option Addr} (h : IntsAt n0 w A len) (hb : Below n0 w w') : IntsAt n0 w' A len :=
  ⟨h.1, fun i hi => by
    obtain ⟨b, off, v, hA, hlt, h0, hv⟩ := h.2 i hi
    exact ⟨b, off, v, hA, hlt, (hb.cell hlt).trans h0, hv⟩⟩
theorem ext_size (s : ByteArray) (a : Nat) (ha : a ≤ s.size) : (s.extract 0 a).size = a := by rw [ByteArray.size_extract]; omega
theorem ext_more2 (s : ByteArray) (a k : Nat) (ha : a ≤ s.size) : s.extract 0 a ++ (⟨((s.data.toList.drop a).take k).toArray⟩ : ByteArray) = s.extract 0 (a + ((s.data.toList.drop a).take k).length) := by
  apply ByteArray.ext
  apply Array.toList_inj.1
  rw [ByteArray.data_append, ByteArray.data_extract, ByteArray.data_extract]
  simp only [Array.toList_append, Array.toList_extract, List.extract_eq_take_drop, Nat.sub_zero, List.drop_zero]
  rw [List.take_add]
  congr 1
  rw [List.length_take]
  rw [List.take_eq_take_iff]
  omega
set_option maxRecDepth 100000 in
set_option maxHeartbeats 8000000 in
theorem offsets_walk (s : ByteArray) (A : Option Addr) (len cap : Nat) (w : World) (hz : s.size ≤ maxLen) (h0 : IntsAt w.heap.size w A len) :
    Calls Tryz.prog 7 #[.string s, .slice A len cap] w fun e w' => e = .returned (.bool true) ∧ Below w.heap.size w w' := by
  have hlm := h0.1
  unfold maxLen at hz hlm
  have h0H := Lib.hid h0
  clear h0
  by_cases hs : 1000 < s.size
  · have hs1 : (1000 : Int) < s.size := by omega
    clear hs
    go_enter Tryz.func7, Tryz.ntmps7
    go_wp2_with (go_at_call 10; refine (awake_any _).mono ?_; rintro e w1 ⟨rfl, hB1⟩)
    go_ret
    exact ⟨rfl, hB1⟩
  by_cases hl : 40 < len
  · have hs1 : ¬ (1000 : Int) < s.size := by omega
    have hl1 : (40 : Int) < len := by omega
    clear hs hl
    go_enter Tryz.func7, Tryz.ntmps7
    go_wp2_with (go_at_call 10; refine (awake_any _).mono ?_; rintro e w1 ⟨rfl, hB1⟩)
    go_ret
    exact ⟨rfl, hB1⟩
  have hs1 : ¬ (1000 : Int) < s.size := by omega
  have hl1 : ¬ (40 : Int) < len := by omega
  have hs9 : s.size ≤ 1000 := by omega
  have hs9H := Lib.hid hs9
  clear hs hl
  go_enter Tryz.func7, Tryz.ntmps7
  go_upto_region 7 with (first
    | (go_at_call 10; refine (awake_any _).mono ?_; rintro e w1 ⟨rfl, hB⟩; have hB1 := Lib.hid hB; clear hB)
    | (go_at_call 11; refine (own_new w1).mono ?_; rintro e w2 ⟨q, rfl, hO⟩; have hO0 := Lib.hid hO; clear hO)
    | (go_at_call 15; refine (og_c1 [] w1 w2 q hO0.out).mono ?_; rintro e w3 ⟨rfl, hO⟩; have hO1 := Lib.hid hO; clear hO))
  go_upto_region 8 with (go_at_call 15; refine (og_c2 s hs9H.out _ _ _ _ hO1.out).mono ?_; rintro e u1 ⟨rfl, hO⟩; have hP := Lib.hid hO; clear hO)
  have hO2 := Lib.hid (hP.out.res 44 #[.int .i64 s.size, .int .i64 0, .string ⟨#[]⟩, .slice none 0 0, .int .i64 0, .int .i64 0, .int .i64 0, .int .i64 0, .int .i64 0, .int .i64 0])
  obtain ⟨r1, hr1⟩ : ∃ r, u1.heap.size = r := ⟨_, rfl⟩
  obtain ⟨V1, hV1⟩ : ∃ V, u1.alloc (.cells #[.int .i64 s.size, .int .i64 0, .string ⟨#[]⟩, .slice none 0 0, .int .i64 0, .int .i64 0, .int .i64 0, .int .i64 0, .int .i64 0, .int .i64 0] 44) = V := ⟨_, rfl⟩
  rw [hV1, hr1] at hO2
  rw [hV1, hr1]
  clear hV1 hr1 hP
  go_upto_region 9 with (go_at_call 15; refine (og_c3 s hs9H.out _ _ _ _ hO2.out).mono ?_; rintro e u2 ⟨rfl, hO⟩; have hP := Lib.hid hO; clear hO)
  have hO3 := Lib.hid (hP.out.res 44 #[.int .i64 4, .int .i64 0, .string ⟨#[]⟩, .slice none 0 0, .int .i64 0, .int .i64 0, .int .i64 0, .int .i64 0, .int .i64 0, .int .i64 0])
  obtain ⟨r2, hr2⟩ : ∃ r, u2.heap.size = r := ⟨_, rfl⟩
  obtain ⟨V2, hV2⟩ : ∃ V, u2.alloc (.cells #[.int .i64 4, .int .i64 0, .string ⟨#[]⟩, .slice none 0 0, .int .i64 0, .int .i64 0, .int .i64 0, .int .i64 0, .int .i64 0, .int .i64 0] 44) = V := ⟨_, rfl⟩
  rw [hV2, hr2] at hO3
  rw [hV2, hr2]
  clear hV2 hr2 hP
  go_upto_region 10 with (go_at_call 15; refine (og_c4 s _ _ _ _ hO3.out).mono ?_; rintro e u3 ⟨rfl, hO⟩; have hP := Lib.hid hO; clear hO)
  have hO4 := Lib.hid (hP.out.res 44 #[.int .i64 10, .int .i64 0, .string ⟨#[]⟩, .slice none 0 0, .int .i64 0, .int .i64 0, .int .i64 0, .int .i64 0, .int .i64 0, .int .i64 0])
  obtain ⟨r3, hr3⟩ : ∃ r, u3.heap.size = r := ⟨_, rfl⟩
  obtain ⟨V3, hV3⟩ : ∃ V, u3.alloc (.cells #[.int .i64 10, .int .i64 0, .string ⟨#[]⟩, .slice none 0 0, .int .i64 0, .int .i64 0, .int .i64 0, .int .i64 0, .int .i64 0, .int .i64 0] 44) = V := ⟨_, rfl⟩
  rw [hV3, hr3] at hO4
  rw [hV3, hr3]
  clear hV3 hr3 hP
  go_upto_region 11 with (go_at_call 15; refine (og_c5 s hs9H.out _ _ _ _ hO4.out).mono ?_; rintro e u4 ⟨rfl, hO⟩; have hP := Lib.hid hO; clear hO)
  have hO5 := Lib.hid (hP.out.res 44 #[.int .i64 2, .int .i64 0, .string ⟨#[]⟩, .slice none 0 0, .int .i64 0, .int .i64 0, .int .i64 0, .int .i64 0, .int .i64 0, .int .i64 0])
  obtain ⟨r4, hr4⟩ : ∃ r, u4.heap.size = r := ⟨_, rfl⟩
  obtain ⟨V4, hV4⟩ : ∃ V, u4.alloc (.cells #[.int .i64 2, .int .i64 0, .string ⟨#[]⟩, .slice none 0 0, .int .i64 0, .int .i64 0, .int .i64 0, .int .i64 0, .int .i64 0, .int .i64 0] 44) = V := ⟨_, rfl⟩
  rw [hV4, hr4] at hO5
  rw [hV4, hr4]
  clear hV4 hr4 hP
  go_upto_region 12 with (go_at_call 15; refine (og_c6 s hs9H.out _ _ _ _ hO5.out).mono ?_; rintro e u5 ⟨rfl, hO⟩; have hP := Lib.hid hO; clear hO)
  have hO6 := Lib.hid (hP.out.res 44 #[.int .i64 5, .int .i64 0, .string ⟨#[]⟩, .slice none 0 0, .int .i64 0, .int .i64 0, .int .i64 0, .int .i64 0, .int .i64 0, .int .i64 0])
  obtain ⟨r5, hr5⟩ : ∃ r, u5.heap.size = r := ⟨_, rfl⟩
  obtain ⟨V5, hV5⟩ : ∃ V, u5.alloc (.cells #[.int .i64 5, .int .i64 0, .string ⟨#[]⟩, .slice none 0 0, .int .i64 0, .int .i64 0, .int .i64 0, .int .i64 0, .int .i64 0, .int .i64 0] 44) = V := ⟨_, rfl⟩
  rw [hV5, hr5] at hO6
  rw [hV5, hr5]
  clear hV5 hr5 hP
  have y1 : V5.cell? ⟨r1, 0, none⟩ = some (.int .i64 s.size) := (hO6.out.blk (g := r1) (t := 44) (cs := #[.int .i64 s.size, .int .i64 0, .string ⟨#[]⟩, .slice none 0 0, .int .i64 0, .int .i64 0, .int .i64 0, .int .i64 0, .int .i64 0, .int .i64 0]) (by simp)).cell 0
  have y2 : V5.cell? ⟨r2, 0, none⟩ = some (.int .i64 4) := (hO6.out.blk (g := r2) (t := 44) (cs := #[.int .i64 4, .int .i64 0, .string ⟨#[]⟩, .slice none 0 0, .int .i64 0, .int .i64 0, .int .i64 0, .int .i64 0, .int .i64 0, .int .i64 0]) (by simp)).cell 0
  have y3 : V5.cell? ⟨r3, 0, none⟩ = some (.int .i64 10) := (hO6.out.blk (g := r3) (t := 44) (cs := #[.int .i64 10, .int .i64 0, .string ⟨#[]⟩, .slice none 0 0, .int .i64 0, .int .i64 0, .int .i64 0, .int .i64 0, .int .i64 0, .int .i64 0]) (by simp)).cell 0
  have y4 : V5.cell? ⟨r4, 0, none⟩ = some (.int .i64 2) := (hO6.out.blk (g := r4) (t := 44) (cs := #[.int .i64 2, .int .i64 0, .string ⟨#[]⟩, .slice none 0 0, .int .i64 0, .int .i64 0, .int .i64 0, .int .i64 0, .int .i64 0, .int .i64 0]) (by simp)).cell 0
  have y5 : V5.cell? ⟨r5, 0, none⟩ = some (.int .i64 5) := (hO6.out.blk (g := r5) (t := 44) (cs := #[.int .i64 5, .int .i64 0, .string ⟨#[]⟩, .slice none 0 0, .int .i64 0, .int .i64 0, .int .i64 0, .int .i64 0, .int .i64 0, .int .i64 0]) (by simp)).cell 0
  have hOx : Hid (OwnK [] w1 V5 q (ogx s.data.toList 0)) := Lib.hid (by
    rw [og_x0]
    obtain ⟨B, M, k1, k2, k3, _⟩ := hO6.out
    exact ⟨B, M, k1, k2, k3, fun x hx => by cases hx⟩)
  clear hO0 hO1 hO2 hO3 hO4 hO5 hO6
  go_wp2_with fail
  go_loopw [16, 97] (fun s16 s97 wr => ∃ (i a : Nat), i ≤ len ∧ a ≤ s.size ∧ s97 = .int .i64 i ∧ s16 = .string (s.extract 0 a) ∧ Hid (OwnK [] w1 wr q (ogx s.data.toList a))) (fun _ s97 _ => len - (intOf s97).toNat)
  case atStart => exact ⟨0, 0, by omega, by omega, rfl, by rw [show s.extract 0 0 = (⟨#[]⟩ : ByteArray) from by apply ByteArray.ext; simp], hOx⟩
  case round =>
    obtain ⟨i, a, hi, ha, rfl, rfl, hO⟩ := hrel
    obtain ⟨G, hG⟩ : ∃ G, s.extract 0 a = G := ⟨_, rfl⟩
    have hGs : G.size = a := by rw [← hG]; exact ext_size s a (by omega)
    rw [hG]
    have hGH := Lib.hid hG
    have hGsH := Lib.hid hGs
    clear hOx hG
    by_cases hil : i < len
    · have hbw : Below w.heap.size w wr := by
        obtain ⟨B, M, _, _, k3, _⟩ := hO.out
        exact hB1.out.trans (k3.mono hB1.out.size)
      obtain ⟨b, off, v, rfl, hb, hcell, hv⟩ := (h0H.out.below hbw).2 i hil
      obtain ⟨k, hk, hk1⟩ : ∃ k : Nat, min (max v 0) 1000 = (k : Int) ∧ k ≤ 1000 := ⟨(min (max v 0) 1000).toNat, by omega, by omega⟩
      obtain ⟨T, hT⟩ : ∃ T : ByteArray, (⟨((s.data.toList.drop a).take k).toArray⟩ : ByteArray) = T := ⟨_, rfl⟩
      obtain ⟨z, hzz⟩ : ∃ z, ((s.data.toList.drop a).take k).length = z := ⟨_, rfl⟩
      have hl9 : s.data.toList.length = s.size := by simp
      have hzm : z = min k (s.size - a) := by rw [← hzz, List.length_take, List.length_drop, hl9]
      have hTs : T.size = z := by rw [← hT, ← hzz]; exact List.size_toArray ..
      have hcat : Hid (s.extract 0 (a + z) = G ++ T) := Lib.hid (by rw [← hT, ← hzz, ← hGH.out]; exact (ext_more2 s a k (by omega)).symm)
      have hle : z ≤ 1000 := by omega
      have hmin : min (k : Int) ((s.size : Int) - (a : Int)) = (z : Int) := by omega
      have hmx : ¬ (9223372036854775807 < a + z) := by omega
      have hO' := hO
      by_cases m1 : i % 3 = 1
      · have t1 : (i : Int).tmod 3 = 1 := by rw [Int.tmod_eq_emod_of_nonneg (by omega)]; omega
        have hrd := Lib.hid (og_r2 s hs9H.out a k (by have := hs9H.out; omega) [] w1 wr q hO.out)
        rw [hT, hzz] at hrd
        clear hT hzz hl9 m1 hbw
        go_upto_region 25 with (go_at_call 15; refine hrd.out.mono ?_; rintro e u7 ⟨rfl, hO⟩; have hP := Lib.hid hO; clear hO)
        have hO7 := Lib.hid (hP.out.res 44 #[.int .i64 0, .int .i64 0, .string T, .slice none 0 0, .int .i64 0, .int .i64 0, .int .i64 0, .int .i64 0, .int .i64 0, .int .i64 0])
        obtain ⟨r7, hr7⟩ : ∃ r, u7.heap.size = r := ⟨_, rfl⟩
        obtain ⟨V7, hV7⟩ : ∃ V, u7.alloc (.cells #[.int .i64 0, .int .i64 0, .string T, .slice none 0 0, .int .i64 0, .int .i64 0, .int .i64 0, .int .i64 0, .int .i64 0, .int .i64 0] 44) = V := ⟨_, rfl⟩
        rw [hV7, hr7] at hO7
        rw [hV7, hr7]
        have z2 : V7.cell? ⟨r7, 2, none⟩ = some (.string T) := (hO7.out.blk (g := r7) (t := 44) (cs := #[.int .i64 0, .int .i64 0, .string T, .slice none 0 0, .int .i64 0, .int .i64 0, .int .i64 0, .int .i64 0, .int .i64 0, .int .i64 0]) (by simp)).cell 2
        have z5 : V7.cell? ⟨r7, 9, none⟩ = some (.int .i64 0) := (hO7.out.blk (g := r7) (t := 44) (cs := #[.int .i64 0, .int .i64 0, .string T, .slice none 0 0, .int .i64 0, .int .i64 0, .int .i64 0, .int .i64 0, .int .i64 0, .int .i64 0]) (by simp)).cell 9
        have hOn : Hid (OwnK [] w1 V7 q (ogx s.data.toList (a + z))) := Lib.hid (by
          obtain ⟨B, M, k1, k2, k3, _⟩ := hO7.out
          exact ⟨B, M, k1, k2, k3, fun x hx => by cases hx⟩)
        clear hV7 hr7 hP hO7
        go_wp2_with fail
        go_roundw
        case rel => exact ⟨i + 1, a + z, by omega, by omega, by go_num, by rw [hcat.out], hOn⟩
        case measure => simp [intOf]; omega
      by_cases m2 : i % 3 = 2
      · have t1 : (i : Int).tmod 3 = 2 := by rw [Int.tmod_eq_emod_of_nonneg (by omega)]; omega
        have hrd := Lib.hid (og_r3 s hs9H.out a k (by have := hs9H.out; omega) [] w1 wr q hO.out)
        rw [hT, hzz] at hrd
        clear hT hzz hl9 m1 m2 hbw
        go_upto_region 25 with (go_at_call 15; refine hrd.out.mono ?_; rintro e u7 ⟨rfl, hO⟩; have hP := Lib.hid hO; clear hO)
        have hO7 := Lib.hid (hP.out.res 44 #[.int .i64 0, .int .i64 0, .string T, .slice none 0 0, .int .i64 0, .int .i64 0, .int .i64 0, .int .i64 0, .int .i64 0, .int .i64 0])
        obtain ⟨r7, hr7⟩ : ∃ r, u7.heap.size = r := ⟨_, rfl⟩
        obtain ⟨V7, hV7⟩ : ∃ V, u7.alloc (.cells #[.int .i64 0, .int .i64 0, .string T, .slice none 0 0, .int .i64 0, .int .i64 0, .int .i64 0, .int .i64 0, .int .i64 0, .int .i64 0] 44) = V := ⟨_, rfl⟩
        rw [hV7, hr7] at hO7
        rw [hV7, hr7]
        have z2 : V7.cell? ⟨r7, 2, none⟩ = some (.string T) := (hO7.out.blk (g := r7) (t := 44) (cs := #[.int .i64 0, .int .i64 0, .string T, .slice none 0 0, .int .i64 0, .int .i64 0, .int .i64 0, .int .i64 0, .int .i64 0, .int .i64 0]) (by simp)).cell 2
        have z5 : V7.cell? ⟨r7, 9, none⟩ = some (.int .i64 0) := (hO7.out.blk (g := r7) (t := 44) (cs := #[.int .i64 0, .int .i64 0, .string T, .slice none 0 0, .int .i64 0, .int .i64 0, .int .i64 0, .int .i64 0, .int .i64 0, .int .i64 0]) (by simp)).cell 9
        have hOn : Hid (OwnK [] w1 V7 q (ogx s.data.toList (a + z))) := Lib.hid (by
          obtain ⟨B, M, k1, k2, k3, _⟩ := hO7.out
          exact ⟨B, M, k1, k2, k3, fun x hx => by cases hx⟩)
        clear hV7 hr7 hP hO7
        go_wp2_with fail
        go_roundw
        case rel => exact ⟨i + 1, a + z, by omega, by omega, by go_num, by rw [hcat.out], hOn⟩
        case measure => simp [intOf]; omega
      · have t1 : (i : Int).tmod 3 = 0 := by rw [Int.tmod_eq_emod_of_nonneg (by omega)]; omega
        have hrd := Lib.hid (og_r1 s hs9H.out a k (by have := hs9H.out; omega) [] w1 wr q hO.out)
        rw [hT, hzz] at hrd
        clear hT hzz hl9 m1 m2 hbw
        go_upto_region 25 with (go_at_call 15; refine hrd.out.mono ?_; rintro e u7 ⟨rfl, hO⟩; have hP := Lib.hid hO; clear hO)
        have hO7 := Lib.hid (hP.out.res 44 #[.int .i64 0, .int .i64 0, .string T, .slice none 0 0, .int .i64 0, .int .i64 0, .int .i64 0, .int .i64 0, .int .i64 0, .int .i64 0])
        obtain ⟨r7, hr7⟩ : ∃ r, u7.heap.size = r := ⟨_, rfl⟩
        obtain ⟨V7, hV7⟩ : ∃ V, u7.alloc (.cells #[.int .i64 0, .int .i64 0, .string T, .slice none 0 0, .int .i64 0, .int .i64 0, .int .i64 0, .int .i64 0, .int .i64 0, .int .i64 0] 44) = V := ⟨_, rfl⟩
        rw [hV7, hr7] at hO7
        rw [hV7, hr7]
        have z2 : V7.cell? ⟨r7, 2, none⟩ = some (.string T) := (hO7.out.blk (g := r7) (t := 44) (cs := #[.int .i64 0, .int .i64 0, .string T, .slice none 0 0, .int .i64 0, .int .i64 0, .int .i64 0, .int .i64 0, .int .i64 0, .int .i64 0]) (by simp)).cell 2
        have z5 : V7.cell? ⟨r7, 9, none⟩ = some (.int .i64 0) := (hO7.out.blk (g := r7) (t := 44) (cs := #[.int .i64 0, .int .i64 0, .string T, .slice none 0 0, .int .i64 0, .int .i64 0, .int .i64 0, .int .i64 0, .int .i64 0, .int .i64 0]) (by simp)).cell 9
        have hOn : Hid (OwnK [] w1 V7 q (ogx s.data.toList (a + z))) := Lib.hid (by
          obtain ⟨B, M, k1, k2, k3, _⟩ := hO7.out
          exact ⟨B, M, k1, k2, k3, fun x hx => by cases hx⟩)
        clear hV7 hr7 hP hO7
        go_wp2_with fail
        go_roundw
        case rel => exact ⟨i + 1, a + z, by omega, by omega, by go_num, by rw [hcat.out], hOn⟩
        case measure => simp [intOf]; omega
    · obtain rfl : i = len := by omega
      have hrd := Lib.hid (og_r4 s hs9H.out a 5000 (by have := hs9H.out; omega) [] w1 wr q hO.out)
      obtain ⟨T, hT⟩ : ∃ T : ByteArray, (⟨((s.data.toList.drop 0).take 5000).toArray⟩ : ByteArray) = T := ⟨_, rfl⟩
      have hTs : T = s := by
        rw [← hT]
        apply ByteArray.ext
        apply Array.toList_inj.1
        rw [List.drop_zero, List.take_of_length_le (by simp; omega)]
      rw [hT, hTs] at hrd
      clear hT hTs
      have hG := hGH.out
      go_upto_region 30 with (go_at_call 15; refine hrd.out.mono ?_; rintro e u7 ⟨rfl, hO⟩; have hP := Lib.hid hO; clear hO)
      have hO7 := Lib.hid (hP.out.res 44 #[.int .i64 0, .int .i64 0, .string s, .slice none 0 0, .int .i64 0, .int .i64 0, .int .i64 0, .int .i64 0, .int .i64 0, .int .i64 0])
      obtain ⟨r7, hr7⟩ : ∃ r, u7.heap.size = r := ⟨_, rfl⟩
      obtain ⟨V7, hV7⟩ : ∃ V, u7.alloc (.cells #[.int .i64 0, .int .i64 0, .string s, .slice none 0 0, .int .i64 0, .int .i64 0, .int .i64 0, .int .i64 0, .int .i64 0, .int .i64 0] 44) = V := ⟨_, rfl⟩
      rw [hV7, hr7] at hO7
      rw [hV7, hr7]
      have z2 : V7.cell? ⟨r7, 2, none⟩ = some (.string s) := (hO7.out.blk (g := r7) (t := 44) (cs := #[.int .i64 0, .int .i64 0, .string s, .slice none 0 0, .int .i64 0, .int .i64 0, .int .i64 0, .int .i64 0, .int .i64 0, .int .i64 0]) (by simp)).cell 2
      clear hV7 hr7 hP
      go_wp2_with fail
      go_ret
      obtain ⟨B, M, _, _, k3, _⟩ := hO7.out
      exact ⟨rfl, hB1.out.trans (k3.mono hB1.out.size)⟩
end Go.Proofs.YtmilagppbepnbaaGreat.Kn
