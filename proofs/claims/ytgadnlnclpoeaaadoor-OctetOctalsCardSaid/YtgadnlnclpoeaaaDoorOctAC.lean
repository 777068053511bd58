/- Numbers of base 8: what is read, plainly; the contracts of both readers. No condition but the text's length. -/
import Derived.Test.YtgadnlnclpoeaaaDoorOctAB
import Derived.Test.YtgadnlnclpoeaaaDoorOctJ
namespace Go.Proofs.YtgadnlnclpoeaaaDoor
open Go.RowKit Go.PlainAid

def dO (c : UInt8) : Bool := decide (48 ≤ c.toNat) && decide (c.toNat ≤ 55)
theorem dO_iff (c : UInt8) : dO c = true ↔ 48 ≤ c.toNat ∧ c.toNat ≤ 55 := by unfold dO; simp
def v8 (l : List UInt8) : Nat := l.foldl (fun a c => a * 8 + (c.toNat - 48)) 0
theorem v8_snoc (l : List UInt8) (c : UInt8) : v8 (l ++ [c]) = v8 l * 8 + (c.toNat - 48) := by unfold v8; rw [List.foldl_append]; rfl
theorem v8_lt (n : Nat) : ∀ l : List UInt8, l.length = n → l.all dO = true → v8 l < 8 ^ n := by
  induction n with
  | zero => intro l h _; rw [List.eq_nil_of_length_eq_zero h]; decide
  | succ n ih =>
    intro l h ha
    rcases List.eq_nil_or_concat l with rfl | ⟨r, c, rfl⟩
    · simp at h
    · rw [List.concat_eq_append, List.length_append] at h
      rw [List.concat_eq_append, List.all_append, Bool.and_eq_true] at ha
      have hc : dO c = true := by simpa using ha.2
      have hc' := (dO_iff c).1 hc
      have := ih r (by simpa using h) ha.1
      rw [List.concat_eq_append, v8_snoc, Nat.pow_succ]
      omega
/-- What is read of a text. -/
def okO (l : List UInt8) : Bool := decide (1 ≤ l.length) && decide (l.length ≤ 6) && l.all dO
def valO (l : List UInt8) : Nat := bif okO l then v8 l else 0

theorem okO_short {l : List UInt8} (h : l.length < 1) : okO l = false := by unfold okO; rw [decide_eq_false (by omega)]; rfl
theorem okO_long {l : List UInt8} (h : 6 < l.length) : okO l = false := by unfold okO; rw [decide_eq_false (p := l.length ≤ 6) (by omega)]; simp
theorem okO_bad {l : List UInt8} {k : Nat} {c : UInt8} (h : l[k]? = some c) (hd : dO c = false) : okO l = false := by
  unfold okO
  have : l.all dO = false := by
    rw [List.all_eq_false]
    exact ⟨c, List.mem_of_getElem? h, by rw [hd]; simp⟩
  rw [this]; simp
theorem okO_good {l : List UInt8} (h1 : 1 ≤ l.length) (h6 : l.length ≤ 6) (ha : l.all dO = true) : okO l = true ∧ valO l = v8 l := by
  have : okO l = true := by unfold okO; rw [decide_eq_true h1, decide_eq_true h6, ha]; rfl
  exact ⟨this, by unfold valO; rw [this]; rfl⟩
theorem valO_no {l : List UInt8} (h : okO l = false) : valO l = 0 := by unfold valO; rw [h]; rfl

theorem all_take {l : List UInt8} {k : Nat} (h : k < l.length) (ha : (l.take k).all dO = true) (hc : dO l[k] = true) : (l.take (k + 1)).all dO = true ∧ v8 (l.take (k + 1)) = v8 (l.take k) * 8 + (l[k].toNat - 48) := by
  have e : l.take (k + 1) = l.take k ++ [l[k]] := by rw [List.take_succ_eq_append_getElem h]
  rw [e]
  exact ⟨by rw [List.all_append, ha]; simp [hc], v8_snoc _ _⟩

/-- Both results. -/
def ResO (l : List UInt8) (w : World) (e : Ending) (w' : World) : Prop := e = .returned (.tuple #[.int .i64 (valO l : Int), .bool (okO l)]) ∧ w = w'
theorem resO_no {l : List UInt8} {w : World} (h : okO l = false) {e : Ending} (he : e = .returned (.tuple #[.int .i64 0, .bool false])) : ResO l w e w := by
  refine ⟨?_, rfl⟩; rw [he, valO_no h, h]; rfl
theorem resO_yes {l : List UInt8} {w : World} (h1 : 1 ≤ l.length) (h6 : l.length ≤ 6) (ha : l.all dO = true) {e : Ending} (he : e = .returned (.tuple #[.int .i64 (v8 l : Int), .bool true])) : ResO l w e w := by
  obtain ⟨h, hv⟩ := okO_good h1 h6 ha
  exact ⟨by rw [he, hv, h], rfl⟩

set_option maxHeartbeats 1000000 in
theorem fromOctal_any (s : ByteArray) (w : World) (hs : s.size ≤ maxLen) : Calls Tryd.prog 16 #[.string s] w (ResO s.data.toList w) := by
  unfold maxLen at hs
  have hb := get_bt s
  have hz := Lib.size_eq s
  have hzH := Lib.hid hz
  by_cases h1 : (s.size : Int) < 1
  · have hn := Lib.hid (okO_short (l := s.data.toList) (by omega))
    clear hz
    go_enter Tryd.func16, Tryd.ntmps16
    go_wp2
    go_ret2
    exact resO_no hn.out rfl
  · by_cases h6 : (6 : Int) < s.size
    · have hn := Lib.hid (okO_long (l := s.data.toList) (by omega))
      clear hz
      go_enter Tryd.func16, Tryd.ntmps16
      go_wp2
      go_ret2
      exact resO_no hn.out rfl
    · clear hz
      have h1' : (1 : Int) ≤ s.size := by omega
      have h6' : (s.size : Int) ≤ 6 := by omega
      go_enter Tryd.func16, Tryd.ntmps16
      go_wp2
      go_loop [4, 16] (fun s4 s16 => ∃ k : Nat, k ≤ s.size ∧ s16 = .int .i64 k ∧ Hid ((s.data.toList.take k).all dO = true) ∧ s4 = .int .i64 (v8 (s.data.toList.take k) : Int)) (fun _ s16 => s.size - (intOf s16).toNat)
      case atStart => exact ⟨0, Nat.zero_le _, rfl, Lib.hid rfl, rfl⟩
      case round =>
        obtain ⟨k, hk, rfl, hall, rfl⟩ := hrel
        by_cases hlt : k < s.size
        · obtain ⟨h', ec⟩ := bt_get hlt
          have ecH := Lib.hid ec
          have hg? : Hid (s.data.toList[k]? = some s.data.toList[k]) := Lib.hid (List.getElem?_eq_getElem h')
          obtain ⟨V, hV⟩ : ∃ V, v8 (s.data.toList.take k) = V := ⟨_, rfl⟩
          have hVlt : V < 2097152 := by
            have h1 := v8_lt k _ (by rw [List.length_take]; omega) hall.out
            have h2 : 8 ^ k ≤ 8 ^ 7 := Nat.pow_le_pow_right (by omega) (by omega)
            omega
          have hVH := Lib.hid hV
          rw [hV]
          clear ec hV
          by_cases g1 : 48 ≤ bt s k
          · by_cases g2 : bt s k ≤ 55
            · obtain ⟨D, hD⟩ : ∃ D : Nat, bt s k = 48 + (D : Int) := ⟨(bt s k - 48).toNat, by omega⟩
              have hst := all_take h' hall.out ((dO_iff _).2 (by have := ecH.out; omega))
              have hst1 := Lib.hid hst.1
              have hst2 : Hid (v8 (s.data.toList.take (k + 1)) = V * 8 + D) := Lib.hid (by rw [hst.2, hVH.out]; have := ecH.out; omega)
              have hDH := Lib.hid hD
              clear hst hD
              go_wp2
              go_round
              case rel => exact ⟨k + 1, by omega, by go_num, hst1.out, by rw [hst2.out]; have := hDH.out; congr 1; omega⟩
              case measure => simp [intOf]; omega
            · have hn := Lib.hid (okO_bad (l := s.data.toList) hg?.out (by
                cases e : dO s.data.toList[k]
                · rfl
                · have := (dO_iff _).1 e; have := ecH.out; omega))
              go_wp2
              go_ret2
              exact resO_no hn.out rfl
          · have hn := Lib.hid (okO_bad (l := s.data.toList) hg?.out (by
              cases e : dO s.data.toList[k]
              · rfl
              · have := (dO_iff _).1 e; have := ecH.out; omega))
            go_wp2
            go_ret2
            exact resO_no hn.out rfl
        · obtain rfl : k = s.size := by omega
          have hl : s.data.toList.take s.size = s.data.toList := List.take_of_length_le (by rw [← hzH.out]; exact Nat.le_refl _)
          rw [hl] at hall ⊢
          clear hl
          go_wp2
          go_ret2
          exact resO_yes (by rw [← hzH.out]; omega) (by rw [← hzH.out]; omega) hall.out rfl

set_option maxHeartbeats 1000000 in
theorem refFromOctal_any (s : ByteArray) (w : World) (hs : s.size ≤ maxLen) : Calls Tryd.prog 17 #[.string s] w (ResO s.data.toList w) := by
  unfold maxLen at hs
  have hb := get_bt s
  have hzH := Lib.hid (Lib.size_eq s)
  go_enter Tryd.func17, Tryd.ntmps17
  go_wp2
  go_loop [4, 5] (fun s4 s16 => ∃ k : Nat, k ≤ s.size ∧ k ≤ 6 ∧ s16 = .int .i64 k ∧ Hid ((s.data.toList.take k).all dO = true) ∧ s4 = .int .i64 (v8 (s.data.toList.take k) : Int)) (fun _ s16 => s.size - (intOf s16).toNat)
  case atStart => exact ⟨0, Nat.zero_le _, by omega, rfl, Lib.hid rfl, rfl⟩
  case round =>
    obtain ⟨k, hk, hk6, rfl, hall, rfl⟩ := hrel
    by_cases hlt : k < s.size
    · obtain ⟨h', ec⟩ := bt_get hlt
      have ecH := Lib.hid ec
      have hg? : Hid (s.data.toList[k]? = some s.data.toList[k]) := Lib.hid (List.getElem?_eq_getElem h')
      obtain ⟨V, hV⟩ : ∃ V, v8 (s.data.toList.take k) = V := ⟨_, rfl⟩
      have hVlt : V < 2097152 := by
        have h1 := v8_lt k _ (by rw [List.length_take]; omega) hall.out
        have h2 : 8 ^ k ≤ 8 ^ 7 := Nat.pow_le_pow_right (by omega) (by omega)
        omega
      have hVH := Lib.hid hV
      rw [hV]
      clear ec hV
      by_cases g1 : 48 ≤ bt s k
      · by_cases g2 : bt s k ≤ 55
        · obtain ⟨D, hD⟩ : ∃ D : Nat, bt s k = 48 + (D : Int) := ⟨(bt s k - 48).toNat, by omega⟩
          have hst := all_take h' hall.out ((dO_iff _).2 (by have := ecH.out; omega))
          have hst1 := Lib.hid hst.1
          have hst2 : Hid (v8 (s.data.toList.take (k + 1)) = V * 8 + D) := Lib.hid (by rw [hst.2, hVH.out]; have := ecH.out; omega)
          have hDH := Lib.hid hD
          clear hst hD
          by_cases h5 : (5 : Int) < (k : Int)
          · have hn := Lib.hid (okO_long (l := s.data.toList) (by rw [← hzH.out]; omega))
            go_wp2
            go_ret2
            exact resO_no hn.out rfl
          · go_wp2
            go_round
            case rel => exact ⟨k + 1, by omega, by omega, by go_num, hst1.out, by rw [hst2.out]; have := hDH.out; congr 1; omega⟩
            case measure => simp [intOf]; omega
        · have hn := Lib.hid (okO_bad (l := s.data.toList) hg?.out (by
            cases e : dO s.data.toList[k]
            · rfl
            · have := (dO_iff _).1 e; have := ecH.out; omega))
          go_wp2
          go_ret2
          exact resO_no hn.out rfl
      · have hn := Lib.hid (okO_bad (l := s.data.toList) hg?.out (by
          cases e : dO s.data.toList[k]
          · rfl
          · have := (dO_iff _).1 e; have := ecH.out; omega))
        go_wp2
        go_ret2
        exact resO_no hn.out rfl
    · obtain rfl : k = s.size := by omega
      have hl : s.data.toList.take s.size = s.data.toList := List.take_of_length_le (by rw [← hzH.out]; exact Nat.le_refl _)
      rw [hl] at hall ⊢
      clear hl
      by_cases h0 : (0 : Int) < s.size
      · have hdt : decide (0 < s.size) = true := by simp; omega
        go_wp2
        go_ret2
        exact resO_yes (by rw [← hzH.out]; omega) (by rw [← hzH.out]; omega) hall.out rfl
      · have hn := Lib.hid (okO_short (l := s.data.toList) (by rw [← hzH.out]; omega))
        have hv0 : v8 s.data.toList = 0 := by
          rw [List.eq_nil_of_length_eq_zero (l := s.data.toList) (by rw [← hzH.out]; omega)]; rfl
        rw [hv0]
        clear hv0
        have hdt : decide (0 < s.size) = false := decide_eq_false (by omega)
        go_wp2
        go_ret2
        exact resO_no hn.out rfl
end Go.Proofs.YtgadnlnclpoeaaaDoor
