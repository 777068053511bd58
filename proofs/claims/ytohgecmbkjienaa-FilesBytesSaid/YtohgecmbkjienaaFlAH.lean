/- FilesBytes, walked. Condition: sizes. -/
import Derived.Test.YtohgecmbkjienaaFlAG
namespace Go.Proofs.Ytohgecmbkjienaa
open Go.RowKit Go.Shelf Go.PlainAid
attribute [local go_sem] Oper.semAt_some
section
variable {w0 w : World} {p : Nat}
theorem bt_create (h : Own w0 w p newM) : Calls Try.prog 17 #[.pointer (some ⟨p, 0, none⟩), .int .i64 1, .string ⟨#[97]⟩, .int .i64 0] w fun e w' => e = .returned (.tuple #[.int .i64 2, .int .i64 0]) ∧ Own w0 w' p (bt []) :=
  h.calls fun B sv ps h1 => by
    have h9 := create_any h1 new_good.1 new_good.2.2 new_good.2.1 1 aT 0 (by unfold maxLen; decide)
    rw [bt_new] at h9
    exact h9
theorem bt_writeO {l : List UInt8} (h : Own w0 w p (bt l)) (a : Nat) (s : ByteArray) (ha : a ≤ 3000) (hs : s.size ≤ 2000) (hl : l.length ≤ 10000) : Calls Try.prog 18 #[.pointer (some ⟨p, 0, none⟩), .int .i64 2, .int .i64 a, .string s] w fun e w' => e = .returned (.tuple #[.int .i64 s.size, .int .i64 0]) ∧ Own w0 w' p (bt (wrL l a s)) :=
  h.calls fun B sv ps h1 => by
    have h9 := write_any h1 (bt_good (by omega)).1 2 a s (by omega)
    rw [bt_write l a s ha hs hl] at h9
    exact h9
theorem bt_readO {l : List UInt8} (h : Own w0 w p (bt l)) (hl : l.length ≤ 9000) : Calls Try.prog 20 #[.pointer (some ⟨p, 0, none⟩), .int .i64 2, .int .i64 0, .int .i64 9000] w fun e w' => e = .returned (.tuple #[.string ⟨l.toArray⟩, .int .i64 0]) ∧ Own w0 w' p (bt l) :=
  h.reads fun B sv ps h1 => by
    have h9 := read_any h1 (bt_good (by omega)).1 2 0 9000
    rw [bt_read l hl] at h9
    exact h9
theorem bt_truncO {l : List UInt8} (h : Own w0 w p (bt l)) (a : Nat) (ha : a ≤ 3000) (hal : a ≤ l.length) (hl : l.length ≤ 9000) : Calls Try.prog 30 #[.pointer (some ⟨p, 0, none⟩), .int .i64 2, .int .i64 a] w fun e w' => e = .returned (.int .i64 0) ∧ Own w0 w' p (bt (l.take a)) :=
  h.calls fun B sv ps h1 => by
    have h9 := truncate_any h1 (bt_good (by omega)).1 2 a
    rw [bt_trunc l a ha hal] at h9
    exact h9
theorem bt_bytesO {l : List UInt8} (h : Own w0 w p (bt l)) (hl : l.length ≤ 9000) : Calls Try.prog 12 #[.pointer (some ⟨p, 0, none⟩)] w fun e w' => e = .returned (.int .i64 l.length) ∧ Own w0 w' p (bt l) :=
  h.reads fun B sv ps h1 => by
    have h9 := bytes_any h1 (bt_good (by omega)).1
    rw [bt_bytes] at h9
    exact h9
end
theorem isEmpty_of {s : ByteArray} (h : s.size = 0) : s.toList.isEmpty = true := by
  rw [Lib.toList_data, ba_nil.2 h]; rfl
theorem isEmpty_no {s : ByteArray} (h : s.size ≠ 0) : s.toList.isEmpty = false := by
  rw [Lib.toList_data]
  cases h9 : s.data.toList with
  | nil => exact absurd (ba_nil.1 h9) h
  | cons a l => rfl
theorem tget (T : ByteArray) (i : Nat) (h : i < T.size) : T.data.toList[i]? = some (T[i]'h) := by
  rw [Array.getElem?_toList, Array.getElem?_eq_getElem h]
  rfl
set_option maxRecDepth 100000 in
set_option maxHeartbeats 2000000 in
theorem filesBytes_any (old : ByteArray) (a : Int) (s : ByteArray) (w : World) : Calls Try.prog 8 #[.string old, .int .i64 a, .string s] w fun e w' => e = .returned (.bool true) ∧ Below w.heap.size w w' := by
  by_cases c1 : 2000 < old.size
  · go_enter Try.func8, Try.ntmps8
    go_wp2_with (go_at_call 9; refine (awake_any _).mono ?_; rintro e w1 ⟨rfl, hb1⟩)
    go_ret
    exact ⟨rfl, hb1⟩
  by_cases c2 : 2000 < s.size
  · go_enter Try.func8, Try.ntmps8
    go_wp2_with (go_at_call 9; refine (awake_any _).mono ?_; rintro e w1 ⟨rfl, hb1⟩)
    go_ret
    exact ⟨rfl, hb1⟩
  by_cases c3 : a < 0
  · go_enter Try.func8, Try.ntmps8
    go_wp2_with (go_at_call 9; refine (awake_any _).mono ?_; rintro e w1 ⟨rfl, hb1⟩)
    go_ret
    exact ⟨rfl, hb1⟩
  by_cases c4 : 3000 < a
  · go_enter Try.func8, Try.ntmps8
    go_wp2_with (go_at_call 9; refine (awake_any _).mono ?_; rintro e w1 ⟨rfl, hb1⟩)
    go_ret
    exact ⟨rfl, hb1⟩
  by_cases c5 : s.size = 0
  · have c5' := isEmpty_of c5
    go_enter Try.func8, Try.ntmps8
    go_wp2_with (go_at_call 9; refine (awake_any _).mono ?_; rintro e w1 ⟨rfl, hb1⟩)
    go_ret
    exact ⟨rfl, hb1⟩
  have c5' := isEmpty_no c5
  obtain ⟨a, rfl⟩ : ∃ m : Nat, a = m := ⟨a.toNat, by omega⟩
  obtain ⟨O, hO⟩ : ∃ O, old.data.toList = O := ⟨_, rfl⟩
  have hOl : O.length = old.size := by rw [← hO]; exact (Lib.size_eq old).symm
  obtain ⟨L, hL⟩ : ∃ L, wrL O a s = L := ⟨_, rfl⟩
  have hLl : L.length = max O.length (a + s.size) := by rw [← hL]; exact wrL_len O a s c5
  obtain ⟨T, hT⟩ : ∃ T : ByteArray, (⟨L.toArray⟩ : ByteArray) = T := ⟨_, rfl⟩
  have hNL : T.size = L.length := by rw [← hT]; rfl
  have hmax : max (old.size : Int) ((a : Int) + (s.size : Int)) = (T.size : Int) := by omega
  have hTH := Lib.hid hT
  have hLH := Lib.hid hL
  have hOH := Lib.hid hO
  have hwr : IntKind.i64.wrap ((a : Int) + (s.size : Int)) = (a : Int) + (s.size : Int) := by rw [IntKind.wrap_i64]; omega
  have k1 : Hid (∀ w0 w p, Own w0 w p (bt []) → Calls Try.prog 18 #[.pointer (some ⟨p, 0, none⟩), .int .i64 2, .int .i64 0, .string old] w fun e w' => e = .returned (.tuple #[.int .i64 old.size, .int .i64 0]) ∧ Own w0 w' p (bt O)) := Lib.hid fun w0 w p h => by
    have h9 := bt_writeO h 0 old (by omega) (by omega) (by decide)
    rw [wrL_first, hO] at h9
    exact h9
  have k2 : Hid (∀ w0 w p, Own w0 w p (bt O) → Calls Try.prog 18 #[.pointer (some ⟨p, 0, none⟩), .int .i64 2, .int .i64 a, .string s] w fun e w' => e = .returned (.tuple #[.int .i64 s.size, .int .i64 0]) ∧ Own w0 w' p (bt L)) := Lib.hid fun w0 w p h => by
    have h9 := bt_writeO h a s (by omega) (by omega) (by omega)
    rw [hL] at h9
    exact h9
  have k3 : Hid (∀ w0 w p, Own w0 w p (bt L) → Calls Try.prog 20 #[.pointer (some ⟨p, 0, none⟩), .int .i64 2, .int .i64 0, .int .i64 9000] w fun e w' => e = .returned (.tuple #[.string T, .int .i64 0]) ∧ Own w0 w' p (bt L)) := Lib.hid fun w0 w p h => by
    have h9 := bt_readO h (by omega)
    rw [hT] at h9
    exact h9
  have hTl : T.size ≤ 5000 := by omega
  have haL : a ≤ L.length := by omega
  have hLT : T.data.toList = L := by rw [← hT]
  have hin : Hid (∀ (i : Nat) (h : i < T.size) (h1 : a ≤ i) (h2 : i < a + s.size), T[i]'h = s[i - a]'(by omega)) := Lib.hid fun i h h1 h2 => by
    have e1 := tget T i h
    have e2 := tget s (i - a) (by omega)
    rw [hLT, ← hL, wrL_in O a s c5 h1 h2, e2] at e1
    exact (Option.some.inj e1).symm
  have hold : Hid (∀ (i : Nat) (h : i < T.size) (_ : i < a ∨ a + s.size ≤ i) (h2 : i < old.size), T[i]'h = old[i]'h2) := Lib.hid fun i h h1 h2 => by
    have e1 := tget T i h
    have e2 := tget old i h2
    rw [hLT, ← hL, wrL_out O a s c5 h1 (by omega), dif_pos (by omega)] at e1
    rw [hO, List.getElem?_eq_getElem (by omega)] at e2
    exact (Option.some.inj e1).symm.trans (Option.some.inj e2)
  have hzero : Hid (∀ (i : Nat) (h : i < T.size) (_ : i < a) (_ : ¬ i < old.size), T[i]'h = 0) := Lib.hid fun i h h1 h2 => by
    have e1 := tget T i h
    rw [hLT, ← hL, wrL_out O a s c5 (.inl h1) (by omega), dif_neg (by omega)] at e1
    exact (Option.some.inj e1).symm
  obtain ⟨U, hU⟩ : ∃ U : ByteArray, (⟨(L.take a).toArray⟩ : ByteArray) = U := ⟨_, rfl⟩
  have hUH := Lib.hid hU
  have k4 : Hid (∀ w0 w p, Own w0 w p (bt L) → Calls Try.prog 30 #[.pointer (some ⟨p, 0, none⟩), .int .i64 2, .int .i64 a] w fun e w' => e = .returned (.int .i64 0) ∧ Own w0 w' p (bt (L.take a))) := Lib.hid fun w0 w p h => bt_truncO h a (by omega) haL (by omega)
  have k5 : Hid (∀ w0 w p, Own w0 w p (bt (L.take a)) → Calls Try.prog 20 #[.pointer (some ⟨p, 0, none⟩), .int .i64 2, .int .i64 0, .int .i64 9000] w fun e w' => e = .returned (.tuple #[.string U, .int .i64 0]) ∧ Own w0 w' p (bt (L.take a))) := Lib.hid fun w0 w p h => by
    have h9 := bt_readO h (by rw [List.length_take]; omega)
    rw [hU] at h9
    exact h9
  have k6 : Hid (∀ w0 w p, Own w0 w p (bt (L.take a)) → Calls Try.prog 12 #[.pointer (some ⟨p, 0, none⟩)] w fun e w' => e = .returned (.int .i64 a) ∧ Own w0 w' p (bt (L.take a))) := Lib.hid fun w0 w p h => by
    have h9 := bt_bytesO h (by rw [List.length_take]; omega)
    rw [List.length_take, Nat.min_eq_left haL] at h9
    exact h9
  have haT : a ≤ T.size := by omega
  have hUT : U.toList = (T.extract 0 a).toList := by
    rw [Lib.toList_data, Lib.toList_data, ← hU, ByteArray.data_extract, Array.toList_extract, List.extract_eq_take_drop, hLT]
    simp
  clear hT hL hO hLl hNL hOl hLT hU haL
  go_enter Try.func8, Try.ntmps8
  go_wp2_with (first | (go_at_call 9; refine (awake_any _).mono ?_; rintro e w1 ⟨rfl, hb1⟩) | (go_at_call 10; refine (new_own _).mono ?_; rintro e w2 ⟨rfl, h2⟩) | (go_at_call 17; refine (bt_create h2).mono ?_; rintro e w3 ⟨rfl, h3⟩) | (go_at_call 18; refine (k2.out _ _ _ h4).mono ?_; rintro e w5 ⟨rfl, h5⟩) | (go_at_call 18; refine (k1.out _ _ _ h3).mono ?_; rintro e w4 ⟨rfl, h4⟩) | (go_at_call 20; refine (k3.out _ _ _ h5).mono ?_; rintro e w6 ⟨rfl, h6⟩))
  go_loopw [94] (fun s94 wr => ∃ i : Nat, i ≤ T.size ∧ s94 = .int .i64 i ∧ w6 = wr) (fun s94 _ => T.size - (intOf s94).toNat)
  case atStart => exact ⟨0, Nat.zero_le _, by go_num, rfl⟩
  case round =>
    obtain ⟨i, hi, rfl, rfl⟩ := hrel
    by_cases hlt : i < T.size
    · by_cases h7 : a ≤ i
      · by_cases h8 : i < a + s.size
        · have hx : T[i]'hlt = s[i - a]'(by omega) := hin.out i hlt h7 h8
          go_wp2
          go_roundw
          case rel => exact ⟨i + 1, by omega, by go_num, trivial⟩
          case measure => simp [intOf]; omega
        · have h9 : i < old.size := by omega
          have hx : T[i]'hlt = old[i]'h9 := hold.out i hlt (.inr (by omega)) h9
          go_wp2
          go_roundw
          case rel => exact ⟨i + 1, by omega, by go_num, trivial⟩
          case measure => simp [intOf]; omega
      · by_cases h9 : i < old.size
        · have hx : T[i]'hlt = old[i]'h9 := hold.out i hlt (.inl (by omega)) h9
          go_wp2
          go_roundw
          case rel => exact ⟨i + 1, by omega, by go_num, trivial⟩
          case measure => simp [intOf]; omega
        · have hx : T[i]'hlt = 0 := hzero.out i hlt (by omega) h9
          go_wp2
          go_roundw
          case rel => exact ⟨i + 1, by omega, by go_num, trivial⟩
          case measure => simp [intOf]; omega
    · obtain rfl : i = T.size := by omega
      go_wp2_with (first | (go_at_call 30; refine (k4.out _ _ _ h6).mono ?_; rintro e w7 ⟨rfl, h7⟩) | (go_at_call 20; refine (k5.out _ _ _ h7).mono ?_; rintro e w8 ⟨rfl, h8⟩) | (go_at_call 12; refine (k6.out _ _ _ h8).mono ?_; rintro e w9 ⟨rfl, h9⟩))
      go_ret
      exact ⟨rfl, hb1.trans (below_of h9.toBelow hb1.size)⟩
end Go.Proofs.Ytohgecmbkjienaa
