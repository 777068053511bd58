/- A delimiter's text without its quoting. No condition. -/
import Derived.Test.YtnhbcmhinhncfaaGreatDoorLxF
namespace Go.Proofs.YtnhbcmhinhncfaaGreatDoor
open Go.RowKit Go.PlainAid
attribute [local go_sem] Oper.semAt_some

def b8 (s : ByteArray) (i : Nat) : UInt8 := if h : i < s.size then s[i]'h else 0
theorem bt_b8 {s : ByteArray} {i : Nat} (h : i < s.size) : bt s i = ((b8 s i).toNat : Int) := by unfold bt b8; rw [dif_pos h, dif_pos h]
/-- The bytes kept, and whether any quoting was there. -/
def unqF (s : ByteArray) : Nat → Nat → List UInt8 → Bool → List UInt8 × Bool
  | 0, _, acc, raw => (acc, raw)
  | f + 1, i, acc, raw => if i < s.size then (if bt s i == 92 then (if i + 1 < s.size then unqF s f (i + 2) (acc ++ [b8 s (i + 1)]) true else (acc, true))
      else if bt s i == 39 then unqF s f (i + 1) acc true else if bt s i == 34 then unqF s f (i + 1) acc true else unqF s f (i + 1) (acc ++ [b8 s i]) raw) else (acc, raw)
def unqM (s : ByteArray) : List UInt8 × Bool := unqF s s.size 0 [] false
theorem unq_end {s : ByteArray} {f i : Nat} {acc : List UInt8} {raw : Bool} (h : ¬ i < s.size) : unqF s f i acc raw = (acc, raw) := by
  cases f with
  | zero => rfl
  | succ f => rw [unqF, if_neg h]
theorem unq_slash {s : ByteArray} {f i : Nat} {acc : List UInt8} {raw : Bool} (h : i < s.size) (h1 : (bt s i == 92) = true) (h2 : i + 1 < s.size) : unqF s (f + 1) i acc raw = unqF s f (i + 2) (acc ++ [b8 s (i + 1)]) true := by
  rw [unqF, if_pos h, h1, if_pos rfl, if_pos h2]
theorem unq_last {s : ByteArray} {f i : Nat} {acc : List UInt8} {raw : Bool} (h : i < s.size) (h1 : (bt s i == 92) = true) (h2 : ¬ i + 1 < s.size) : unqF s (f + 1) i acc raw = (acc, true) := by
  rw [unqF, if_pos h, h1, if_pos rfl, if_neg h2]
theorem unq_one {s : ByteArray} {f i : Nat} {acc : List UInt8} {raw : Bool} (h : i < s.size) (h1 : (bt s i == 92) = false) (h2 : (bt s i == 39) = true) : unqF s (f + 1) i acc raw = unqF s f (i + 1) acc true := by
  rw [unqF, if_pos h, h1, if_neg (by decide), h2, if_pos rfl]
theorem unq_two {s : ByteArray} {f i : Nat} {acc : List UInt8} {raw : Bool} (h : i < s.size) (h1 : (bt s i == 92) = false) (h2 : (bt s i == 39) = false) (h3 : (bt s i == 34) = true) : unqF s (f + 1) i acc raw = unqF s f (i + 1) acc true := by
  rw [unqF, if_pos h, h1, if_neg (by decide), h2, if_neg (by decide), h3, if_pos rfl]
theorem unq_byte {s : ByteArray} {f i : Nat} {acc : List UInt8} {raw : Bool} (h : i < s.size) (h1 : (bt s i == 92) = false) (h2 : (bt s i == 39) = false) (h3 : (bt s i == 34) = false) : unqF s (f + 1) i acc raw = unqF s f (i + 1) (acc ++ [b8 s i]) raw := by
  rw [unqF, if_pos h, h1, if_neg (by decide), h2, if_neg (by decide), h3, if_neg (by decide)]

set_option maxRecDepth 100000 in
set_option maxHeartbeats 4000000 in
theorem unquoted_any (s : ByteArray) (w : World) (hs : s.size ≤ 100000) :
    Calls Tryz.prog 58 #[.string s] w fun e w' => e = .returned (.tuple #[.string ⟨(unqM s).1.toArray⟩, .bool (unqM s).2]) ∧ Below w.heap.size w w' := by
  obtain ⟨B, hB⟩ : ∃ B, w.heap.size = B := ⟨_, rfl⟩
  have hbt := get_bt s
  have hb0 : Hid (Lib.IsBuilder 80 5 B B (Lib.byteCells []) (w.alloc (.cells #[.pointer none, .slice none 0 0] 80))) := Lib.hid (by rw [← hB]; exact Lib.fresh_isBuilder 80 5 w)
  have hBel : Hid (Below B w (w.alloc (.cells #[.pointer none, .slice none 0 0] 80))) := Lib.hid (by rw [← hB]; exact (Below.refl _ _).alloc (Nat.le_refl _) _)
  have hBH := Lib.hid hB
  rw [hB]
  clear hB
  go_enter Tryz.func58, Tryz.ntmps58
  go_wp2
  rw [hBH.out]
  go_loopw [5, 6] (fun r v wr => ∃ (i f : Nat) (acc : List UInt8) (raw : Bool), i ≤ s.size + 1 ∧ s.size ≤ i + f ∧ v = .int .i64 i ∧ r = .bool raw ∧ acc.length ≤ i ∧ Hid (unqM s = unqF s f i acc raw) ∧ Hid (Lib.IsBuilder 80 5 B B (Lib.byteCells acc) wr) ∧ Hid (Below B w wr)) (fun _ v _ => s.size + 1 - (intOf v).toNat)
  case atStart => exact ⟨0, s.size, [], false, by omega, by omega, by go_num, rfl, Nat.le_refl _, Lib.hid rfl, hb0, hBel⟩
  case round =>
    obtain ⟨i, f, acc, raw, hi, hf, rfl, rfl, hac, hm, hb, hbel⟩ := hrel
    have hsz : B ≤ wr.heap.size := by have := hbel.out.size; have := hBH.out; omega
    by_cases hlt : i < s.size
    · obtain ⟨f, rfl⟩ : ∃ g, f = g + 1 := ⟨f - 1, by omega⟩
      cases h1 : (bt s i == 92)
      · cases h2 : (bt s i == 39)
        · cases h3 : (bt s i == 34)
          · have hx := Lib.hid (bt_b8 hlt)
            have hnext := Lib.hid (hm.out.trans (unq_byte hlt h1 h2 h3))
            go_wp2_with (go_at_call 72; rw [hx.out]; refine (writeByte_any B B acc (b8 s i) _ hb.out (by omega) hsz).mono ?_; rintro e w5 ⟨rfl, hb5, hl5⟩; have hb5H := Lib.hid hb5; have hl5H := Lib.hid (hbel.out.trans hl5); clear hb5 hl5)
            go_roundw
            case rel => exact ⟨i + 1, f, acc ++ [b8 s i], raw, by omega, by omega, by go_num, rfl, by simp; omega, hnext, Lib.hid (.inr hb5H.out), hl5H⟩
            case measure => simp [intOf]; omega
          · have hnext := Lib.hid (hm.out.trans (unq_two hlt h1 h2 h3))
            go_wp2
            go_roundw
            case rel => exact ⟨i + 1, f, acc, true, by omega, by omega, by go_num, rfl, by omega, hnext, hb, hbel⟩
            case measure => simp [intOf]; omega
        · have hnext := Lib.hid (hm.out.trans (unq_one hlt h1 h2))
          go_wp2
          go_roundw
          case rel => exact ⟨i + 1, f, acc, true, by omega, by omega, by go_num, rfl, by omega, hnext, hb, hbel⟩
          case measure => simp [intOf]; omega
      · by_cases h2 : i + 1 < s.size
        · have hx := Lib.hid (bt_b8 h2)
          have hnext := Lib.hid (hm.out.trans (unq_slash hlt h1 h2))
          go_wp2_with (go_at_call 72; rw [hx.out]; refine (writeByte_any B B acc (b8 s (i + 1)) _ hb.out (by omega) hsz).mono ?_; rintro e w5 ⟨rfl, hb5, hl5⟩; have hb5H := Lib.hid hb5; have hl5H := Lib.hid (hbel.out.trans hl5); clear hb5 hl5)
          go_roundw
          case rel => exact ⟨i + 2, f, acc ++ [b8 s (i + 1)], true, by omega, by omega, by go_num, rfl, by simp; omega, hnext, Lib.hid (.inr hb5H.out), hl5H⟩
          case measure => simp [intOf]; omega
        · have hnext := Lib.hid ((hm.out.trans (unq_last hlt h1 h2)).trans (unq_end (s := s) (f := 0) (i := i + 2) (by omega)).symm)
          go_wp2
          go_roundw
          case rel => exact ⟨i + 2, 0, acc, true, by omega, by omega, by go_num, rfl, by omega, hnext, hb, hbel⟩
          case measure => simp [intOf]; omega
    · have hres : Hid (unqM s = (acc, raw)) := Lib.hid (hm.out.trans (unq_end hlt))
      go_wp2_with (go_at_call 41; refine (Tryz.Builder_String_any B B acc wr hb.out hsz).mono ?_; rintro e w5 ⟨rfl, hl5⟩; have hl5H := Lib.hid (hbel.out.trans hl5); clear hl5)
      go_ret2
      exact ⟨by rw [hres.out]; rfl, hl5H.out⟩
end Go.Proofs.YtnhbcmhinhncfaaGreatDoor
