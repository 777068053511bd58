/- The contracts of Decimal, Number, isSafe, Quote and of the first look. Condition: the library's tables and sentinels lie as they were laid (Gl). -/
import Derived.Test.YtgadnlnclpoeaaaDoorOctA
import Derived.Test.YtgadnlnclpoeaaaDoorShelf
import Derived.Lib.AppendIntMem
import Derived.Lib.AtoiErrMem
namespace Go.Proofs.YtgadnlnclpoeaaaDoor
open Go.RowKit Go.PlainAid

/-- What the listed variables hold, as far as the contracts ask. -/
structure Gl (w : World) : Prop where
  c1 : ∃ t p, w.cell? ⟨1, 0, none⟩ = some (.iface t p)
  c2 : ∃ t p, w.cell? ⟨2, 0, none⟩ = some (.iface t p)
  c3 : ∃ m, w.cell? ⟨3, 0, none⟩ = some (.int .i64 m)
  tab : Lib.TabIs Tryd.prog w "internal/strconv.uint64pow10" .u64 Lib.pow10Tab

theorem Gl.below {w w' : World} {n : Nat} (h : Gl w) (hb : Below n w w') (hn : 4 ≤ n) : Gl w' := by
  refine ⟨?_, ?_, ?_, var?_below hb (g := 0) (by kernel_rfl) (by omega) h.tab⟩
  · obtain ⟨t, p, e⟩ := h.c1
    exact ⟨t, p, (hb.cell (p := ⟨1, 0, none⟩) (by show 1 < n; omega)).trans e⟩
  · obtain ⟨t, p, e⟩ := h.c2
    exact ⟨t, p, (hb.cell (p := ⟨2, 0, none⟩) (by show 2 < n; omega)).trans e⟩
  · obtain ⟨m, e⟩ := h.c3
    exact ⟨m, (hb.cell (p := ⟨3, 0, none⟩) (by show 3 < n; omega)).trans e⟩

theorem Gl.size {w : World} (h : Gl w) : 4 ≤ w.heap.size := by
  obtain ⟨m, e⟩ := h.c3
  exact Lib.lt_of_cell e

set_option maxHeartbeats 400000 in
theorem decimal_any (n : Int) (h0 : -9223372036854775808 ≤ n) (h1 : n ≤ 9223372036854775807) (w : World) (h : Gl w) :
    Calls Tryd.prog 11 #[.int .i64 n] w fun e w' => e = .returned (.string ⟨(Lib.itoa n).toArray⟩) ∧ Below w.heap.size w w' := by
  have hf : Hid (Calls Tryd.prog 26 #[.int .i64 n, .int .i64 10] w fun e w' => e = .returned (.string ⟨(Lib.itoa n).toArray⟩) ∧ Below w.heap.size w w') :=
    Lib.hid ((Tryd.strconv_FormatInt_10 n h0 h1 w h.tab).mono fun e w' ⟨he, k, os, hw⟩ => ⟨he, by rw [hw]; exact Lib.below_grow _ _ (Nat.le_refl _) k os⟩)
  clear h
  go_enter Tryd.func11, Tryd.ntmps11
  go_wp2_with fail
  refine hf.out.mono ?_
  rintro e w1 ⟨rfl, hb⟩
  have hbH := Lib.hid hb
  clear hb
  go_wp2
  go_ret
  exact ⟨rfl, hbH.out⟩

/-- What Number answers. -/
def numV (l : List UInt8) : Int := match Lib.parseIntB 64 l with
  | .ok v => v
  | _ => 0
def numOk (l : List UInt8) : Bool := match Lib.parseIntB 64 l with
  | .ok _ => true
  | _ => false

set_option maxHeartbeats 400000 in
theorem number_any (s : ByteArray) (hs : s.size ≤ 281474976710656) (w : World) (h : Gl w) :
    Calls Tryd.prog 12 #[.string s] w fun e w' => e = .returned (.tuple #[.int .i64 (numV s.data.toList), .bool (numOk s.data.toList)]) ∧ Below w.heap.size w w' := by
  unfold numV numOk
  rcases hp : Lib.parseIntB 64 s.data.toList with v | _ | _
  · have hf : Hid (Calls Tryd.prog 27 #[.string s, .int .i64 10, .int .i64 64] w fun e w' => e = .returned (.tuple #[.int .i64 v, .nilIface]) ∧ Below w.heap.size w w') :=
      Lib.hid ((Tryd.strconv_ParseInt_10_at64_ok s (by omega) v hp w).mono fun e w' ⟨he, hw⟩ => ⟨he, by
        rcases hw with rfl | ⟨t, rfl⟩
        · exact Below.refl _ _
        · exact Lib.bytesWorld_below _ _ _⟩)
    clear h hp
    go_enter Tryd.func12, Tryd.ntmps12
    go_wp2_with fail
    refine hf.out.mono ?_
    rintro e w1 ⟨rfl, hb⟩
    have hbH := Lib.hid hb
    clear hb
    go_wp2
    go_ret2
    exact ⟨rfl, hbH.out⟩
  · obtain ⟨t, p, hc⟩ := h.c1
    have hf : Hid (Calls Tryd.prog 27 #[.string s, .int .i64 10, .int .i64 64] w fun e w' => ∃ N, e = .returned (.tuple #[.int .i64 0, .iface 64 (.pointer (some ⟨N, 0, none⟩))]) ∧ Below w.heap.size w w') :=
      Lib.hid ((Tryd.strconv_ParseInt_10_at64_syntax s hs hp _ w hc (.inr ⟨_, _, rfl⟩)).mono fun e w' ⟨N, he, _, _, hw⟩ => ⟨N, he, hw⟩)
    clear h hp hc
    go_enter Tryd.func12, Tryd.ntmps12
    go_wp2_with fail
    refine hf.out.mono ?_
    rintro e w1 ⟨N, rfl, hb⟩
    have hbH := Lib.hid hb
    clear hb
    go_wp2
    go_ret2
    exact ⟨rfl, hbH.out⟩
  · obtain ⟨t, p, hc⟩ := h.c2
    have hf : Hid (Calls Tryd.prog 27 #[.string s, .int .i64 10, .int .i64 64] w fun e w' => ∃ N x, e = .returned (.tuple #[.int .i64 x, .iface 64 (.pointer (some ⟨N, 0, none⟩))]) ∧ Below w.heap.size w w') :=
      Lib.hid ((Tryd.strconv_ParseInt_10_at64_range s hs hp _ w hc (.inr ⟨_, _, rfl⟩)).mono fun e w' ⟨N, he, _, _, hw⟩ => ⟨N, _, he, hw⟩)
    clear h hp hc
    go_enter Tryd.func12, Tryd.ntmps12
    go_wp2_with fail
    refine hf.out.mono ?_
    rintro e w1 ⟨N, x, rfl, hb⟩
    have hbH := Lib.hid hb
    clear hb
    go_wp2
    go_ret2
    exact ⟨rfl, hbH.out⟩

/-- Where a byte stands among those that need no quotes, beside letters and digits; -1: nowhere. -/
def idx (c : Int) : Int := Lib.indexByte [95, 45, 46, 47, 58, 61, 43, 44, 64, 37] c.toNat.toUInt8
theorem punct_any (c : Int) (w : World) : Calls Tryd.prog 35 #[.string ⟨#[95, 45, 46, 47, 58, 61, 43, 44, 64, 37]⟩, .int .u8 c] w fun e w' => e = .returned (.int .i64 (idx c)) ∧ w = w' :=
  (Tryd.strings_IndexByte _ _ _).mono fun _ _ ⟨he, hw⟩ => ⟨he, hw.symm⟩
def safeOk (s : ByteArray) (k : Nat) : Bool := letB (bt s k) || digB (bt s k) || !decide (idx (bt s k) < 0)
def isSafe (s : ByteArray) : Bool := decide (s.size ≠ 0) && decide (∀ k, k < s.size → safeOk s k = true)
theorem isSafe_yes {s : ByteArray} (h0 : s.size ≠ 0) (h : ∀ k, k < s.size → safeOk s k = true) : isSafe s = true := by
  unfold isSafe; rw [decide_eq_true h0, decide_eq_true h]; rfl
theorem isSafe_bad {s : ByteArray} {k : Nat} (hk : k < s.size) (h : safeOk s k = false) : isSafe s = false := by
  unfold isSafe
  have : ¬ ∀ k, k < s.size → safeOk s k = true := fun g => by rw [g k hk] at h; cases h
  rw [decide_eq_false this]; simp
theorem isSafe_empty {s : ByteArray} (h : s.size = 0) : isSafe s = false := by
  unfold isSafe; simp [h]

set_option maxHeartbeats 1000000 in
theorem isSafe_any (s : ByteArray) (w : World) (hs : s.size ≤ maxLen) : Calls Tryd.prog 32 #[.string s] w fun e w' => e = .returned (.bool (isSafe s)) ∧ w = w' := by
  unfold maxLen at hs
  have hb := get_bt s
  go_enter Tryd.func32, Tryd.ntmps32
  go_wp2
  go_loop [6] (fun i => ∃ k : Nat, k ≤ s.size ∧ i = .int .i64 k ∧ Hid (∀ m, m < k → safeOk s m = true)) (fun i => s.size - (intOf i).toNat)
  case atStart => exact ⟨0, Nat.zero_le _, rfl, Lib.hid (fun m h => absurd h (by omega))⟩
  case round =>
    obtain ⟨k, hk, rfl, hm⟩ := hrel
    by_cases hlt : k < s.size
    · cases hL : letB (bt s k) <;> cases hD : digB (bt s k) <;> cases hI : decide (idx (bt s k) < 0)
      all_goals
        have hn : Hid (safeOk s k = (letB (bt s k) || digB (bt s k) || !decide (idx (bt s k) < 0))) := rfl
        rw [hL, hD, hI] at hn
        go_wp2_with (first
          | (go_at_call 28; refine (isLetter_any _ _).mono ?_; rintro e w' ⟨rfl, rfl⟩)
          | (go_at_call 29; refine (isDigit_any _ _).mono ?_; rintro e w' ⟨rfl, rfl⟩)
          | (go_at_call 35; refine (punct_any _ _).mono ?_; rintro e w' ⟨rfl, rfl⟩))
        first
        | (go_ret
           exact ⟨ret_bool (isSafe_bad hlt hn.out).symm, rfl⟩)
        | (go_round
           case rel => exact ⟨k + 1, by omega, by go_num, Lib.hid (fun m h => by
             by_cases e : m = k
             · subst e; exact hn.out
             · exact hm.out m (by omega))⟩
           case measure => simp [intOf]; omega)
    · obtain rfl : k = s.size := by omega
      by_cases h0 : s.size = 0
      · have e0 := size0 h0
        have hr := Lib.hid (isSafe_empty h0)
        subst e0
        go_wp2
        go_ret
        exact ⟨ret_bool hr.out.symm, rfl⟩
      · have hr := Lib.hid (isSafe_yes h0 hm.out)
        have hne : (!s.toList.isEmpty) = true := str_ne h0
        clear h0
        go_wp2
        go_ret
        exact ⟨ret_bool hr.out.symm, rfl⟩
end Go.Proofs.YtgadnlnclpoeaaaDoor
