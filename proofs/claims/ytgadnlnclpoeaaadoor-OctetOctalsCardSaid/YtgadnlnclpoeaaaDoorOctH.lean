/- The walk of the law OctetSigns: true at every input. Condition: the library's tables and sentinels lie as they were laid (Gl). -/
import Derived.Test.YtgadnlnclpoeaaaDoorOctD
import Derived.Test.YtgadnlnclpoeaaaDoorOctM
namespace Go.Proofs.YtgadnlnclpoeaaaDoor
open Go.RowKit Go.PlainAid

/-- k zeros; a number's text with k zeros ahead. -/
def zs (k : Nat) : ByteArray := ⟨(List.replicate k 48).toArray⟩
def zd (k u : Nat) : ByteArray := ⟨(zdec k u).toArray⟩
theorem zs_size (k : Nat) : (zs k).size = k := by
  show (List.replicate k (48 : UInt8)).toArray.size = k
  simp
theorem ba_ext {a b : ByteArray} (h : a.data.toList = b.data.toList) : a = b := by
  obtain ⟨⟨x⟩⟩ := a
  obtain ⟨⟨y⟩⟩ := b
  have : x = y := h
  rw [this]
theorem zs_succ (k : Nat) : zs k ++ ⟨#[48]⟩ = zs (k + 1) := by
  apply ba_ext
  rw [app_data]
  show List.replicate k (48 : UInt8) ++ [48] = List.replicate (k + 1) 48
  rw [List.replicate_succ']
theorem zs_itoa (k u : Nat) : zs k ++ ⟨(Lib.itoa (u : Int)).toArray⟩ = zd k u := by
  apply ba_ext
  rw [app_data]
  show List.replicate k (48 : UInt8) ++ Lib.itoa (u : Int) = zdec k u
  rw [Lib.itoa_nonneg]; rfl
theorem zd_size (k u : Nat) (h : u ≤ 9223372036854775807) : (zd k u).size ≤ k + 21 := by
  have : (zd k u).size = (zdec k u).length := by
    show (zdec k u).toArray.size = _
    simp
  rw [this]
  have h2 := Lib.itoa_length_le (u : Int) (by omega) (by omega)
  rw [Lib.itoa_nonneg] at h2
  unfold zdec
  simp; omega

theorem num_call {s : ByteArray} {v : Int} (hs : s.size ≤ 100000) (h : Lib.parseIntB 64 s.data.toList = .ok v) (w : World) (g : Gl w) :
    Calls Tryd.prog 12 #[.string s] w fun e w' => e = .returned (.tuple #[.int .i64 v, .bool true]) ∧ Below w.heap.size w w' :=
  (number_any s (by omega) w g).mono fun _ _ ⟨he, hw⟩ => ⟨by rw [he, numV_of h, numOk_of h], hw⟩

def SomeNo (w : World) (e : Ending) (w' : World) : Prop := ∃ v : Int, e = .returned (.tuple #[.int .i64 v, .bool false]) ∧ Below w.heap.size w w'

theorem no_call {s : ByteArray} (hs : s.size ≤ 100000) (h : numOk s.data.toList = false) (w : World) (g : Gl w) : Calls Tryd.prog 12 #[.string s] w (SomeNo w) :=
  (number_any s (by omega) w g).mono fun _ _ ⟨he, hw⟩ => ⟨numV s.data.toList, by rw [he, h], hw⟩

set_option maxRecDepth 100000 in
set_option maxHeartbeats 1000000 in
theorem octetSigns_walk (n z : Int) (w : World) (hn0 : -9223372036854775808 ≤ n) (hn1 : n ≤ 9223372036854775807) (hz0 : -9223372036854775808 ≤ z) (hz1 : z ≤ 9223372036854775807) (hg : Gl w) :
    Calls Tryd.prog 7 #[.int .i64 n, .int .i64 z] w fun e w' => e = .returned (.bool true) ∧ Below w.heap.size w w' := by
  have hg' := Lib.hid hg
  have h4 := hg.size
  clear hg
  by_cases b1 : n < 0
  · go_enter Tryd.func7, Tryd.ntmps7
    go_wp2_with fail
    refine (awake_any _ hg'.out).mono ?_
    rintro e w1 ⟨rfl, hb⟩
    have hbH := Lib.hid hb
    clear hb
    go_wp2
    go_ret
    exact ⟨rfl, hbH.out⟩
  by_cases b2 : z < 0
  · go_enter Tryd.func7, Tryd.ntmps7
    go_wp2_with fail
    refine (awake_any _ hg'.out).mono ?_
    rintro e w1 ⟨rfl, hb⟩
    have hbH := Lib.hid hb
    clear hb
    go_wp2
    go_ret
    exact ⟨rfl, hbH.out⟩
  by_cases b3 : 1000 < z
  · go_enter Tryd.func7, Tryd.ntmps7
    go_wp2_with fail
    refine (awake_any _ hg'.out).mono ?_
    rintro e w1 ⟨rfl, hb⟩
    have hbH := Lib.hid hb
    clear hb
    go_wp2
    go_ret
    exact ⟨rfl, hbH.out⟩
  obtain ⟨u, rfl⟩ : ∃ u : Nat, n = (u : Int) := ⟨n.toNat, by omega⟩
  obtain ⟨k, rfl⟩ : ∃ k : Nat, z = (k : Int) := ⟨z.toNat, by omega⟩
  have hk : k ≤ 1000 := by omega
  have hu : u ≤ 9223372036854775807 := by omega
  clear b1 b2 b3 hz0 hz1 hn0 hn1
  have b1 : ¬ (u : Int) < 0 := by omega
  have b2 : ¬ (k : Int) < 0 := by omega
  have b3 : ¬ 1000 < (k : Int) := by omega
  have hS := zd_size k u hu
  have c1 : Hid (∀ w, Gl w → Calls Tryd.prog 12 #[.string (zd k u)] w fun e w' => e = .returned (.tuple #[.int .i64 u, .bool true]) ∧ Below w.heap.size w w') :=
    Lib.hid (fun w g => num_call (by omega) (zdec_int k u (by omega)) w g)
  have c2 : Hid (∀ w, Gl w → Calls Tryd.prog 12 #[.string (⟨#[45]⟩ ++ zd k u)] w fun e w' => e = .returned (.tuple #[.int .i64 (-(u : Int)), .bool true]) ∧ Below w.heap.size w w') :=
    Lib.hid (fun w g => num_call (by rw [app_size]; show 1 + _ ≤ _; omega) (by rw [app_data]; exact zdec_minus k u (by omega)) w g)
  have c3 : Hid (∀ w, Gl w → Calls Tryd.prog 12 #[.string (⟨#[43]⟩ ++ zd k u)] w fun e w' => e = .returned (.tuple #[.int .i64 u, .bool true]) ∧ Below w.heap.size w w') :=
    Lib.hid (fun w g => num_call (by rw [app_size]; show 1 + _ ≤ _; omega) (by rw [app_data]; exact zdec_plus k u (by omega)) w g)
  have c4 : Hid (∀ w, Gl w → Calls Tryd.prog 12 #[.string (⟨#[45, 45]⟩ ++ zd k u)] w (SomeNo w)) :=
    Lib.hid (fun w g => no_call (by rw [app_size]; show 2 + _ ≤ _; omega) (by rw [app_data]; exact zdec_twice k u) w g)
  have cd : Hid (∀ w, Gl w → Calls Tryd.prog 11 #[.int .i64 u] w fun e w' => e = .returned (.string ⟨(Lib.itoa (u : Int)).toArray⟩) ∧ Below w.heap.size w w') :=
    Lib.hid (fun w g => decimal_any _ (by omega) (by omega) w g)
  have hI : Hid (zs k ++ ⟨(Lib.itoa (u : Int)).toArray⟩ = zd k u) := Lib.hid (zs_itoa k u)
  have hIs : (⟨(Lib.itoa (u : Int)).toArray⟩ : ByteArray).size ≤ 21 := by
    have h2 := Lib.itoa_length_le (u : Int) (by omega) (by omega)
    show (Lib.itoa (u : Int)).toArray.size ≤ 21
    simpa using h2
  generalize hX : (⟨(Lib.itoa (u : Int)).toArray⟩ : ByteArray) = X at cd hI hIs
  clear hX
  go_enter Tryd.func7, Tryd.ntmps7
  go_wp2_with fail
  refine (awake_any _ hg'.out).mono ?_
  rintro e w1 ⟨rfl, hb⟩
  have B1 := Lib.hid hb
  clear hb
  go_wp2
  go_loop [5, 27] (fun s5 s27 => ∃ j : Nat, j ≤ k ∧ s5 = .string (zs j) ∧ s27 = .int .i64 j) (fun _ s27 => k - (intOf s27).toNat)
  case atStart => exact ⟨0, Nat.zero_le _, rfl, rfl⟩
  case round =>
    obtain ⟨j, hj, rfl, rfl⟩ := hrel
    have hzj := zs_size j
    by_cases hlt : j < k
    · have z1 : ¬ 9223372036854775807 < (zs j).size + 1 := by omega
      have hsu := Lib.hid (zs_succ j)
      clear hzj
      go_wp2
      go_round
      case rel => exact ⟨j + 1, by omega, by rw [← hsu.out], by go_num⟩
      case measure => simp [intOf]; omega
    · obtain rfl : j = k := by omega
      have z1 : ¬ 9223372036854775807 < (zs j).size + X.size := by omega
      have y1 : ¬ 9223372036854775807 < 1 + (zd j u).size := by omega
      have y2 : ¬ 9223372036854775807 < 2 + (zd j u).size := by omega
      clear hzj
      go_upto_region 10 with fail
      go_cut [5] (fun s5 wx => s5 = .string (zd j u) ∧ Below w.heap.size w wx)
      case first =>
        go_wp2_with fail
        refine (cd.out _ (hg'.out.below B1.out h4)).mono ?_
        rintro e w2 ⟨rfl, hb⟩
        have B2 := Lib.hid (B1.out.trans (hb.mono B1.out.size))
        clear hb
        go_wp2
        go_meet
        exact ⟨congrArg Value.string hI.out, B2.out⟩
      case rest =>
        obtain ⟨rfl, B2'⟩ := hcut
        have B2 := Lib.hid B2'
        clear B2'
        go_wp2_with fail
        refine (c1.out _ (hg'.out.below B2.out h4)).mono ?_
        rintro e w3 ⟨rfl, hb⟩
        have B3 := Lib.hid (B2.out.trans (hb.mono B2.out.size))
        clear hb
        go_wp2_with fail
        refine (c2.out _ (hg'.out.below B3.out h4)).mono ?_
        rintro e w4 ⟨rfl, hb⟩
        have B4 := Lib.hid (B3.out.trans (hb.mono B3.out.size))
        clear hb
        go_wp2_with fail
        refine (c3.out _ (hg'.out.below B4.out h4)).mono ?_
        rintro e w5 ⟨rfl, hb⟩
        have B5 := Lib.hid (B4.out.trans (hb.mono B4.out.size))
        clear hb
        go_wp2_with fail
        refine (c4.out _ (hg'.out.below B5.out h4)).mono ?_
        rintro e w6 ⟨v, rfl, hb⟩
        have B6 := Lib.hid (B5.out.trans (hb.mono B5.out.size))
        clear hb
        go_wp2
        go_ret
        exact ⟨rfl, B6.out⟩
end Go.Proofs.YtgadnlnclpoeaaaDoor
