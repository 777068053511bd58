/- matches. Condition: lengths. -/
import Derived.Test.YtlaidmjlgjpgcaaPatA
import Derived.Test.YtlaidmjlgjpgcaaSplY
import Derived.BigQuiet
import Derived.Deep.QuietTactic
namespace Go.Proofs.Ytlaidmjlgjpgcaa
open Go.RowKit
attribute [local go_sem] Oper.semAt_some

/-- Elements in memory, below n₀. -/
def ElsAt (n₀ : Nat) (W : World) (av : Option Addr) (l : List El) : Prop :=
  ∀ (i : Nat) (e : El), l[i]? = some e → ∃ b off x, av = some ⟨b, off, none⟩ ∧ b < n₀ ∧ W.cell? ⟨b, off + i * 5, none⟩ = some (.bool e.st) ∧ (∀ k, k < 4 → W.cell? ⟨b, off + i * 5 + 1 + k, none⟩ = some (.int .u64 (x k : Nat))) ∧ Rep x e.S
def MatR (M : Prop) (w : World) (e : Ending) (w' : World) : Prop := ∃ b, e = .returned (.bool b) ∧ (b = true ↔ M) ∧ ∃ m, w' = w.drewN m
def starI : Option (Nat × Nat) → Int
  | none => -1
  | some (z, _) => (z : Int) - 1
def backI : Option (Nat × Nat) → Nat
  | none => 0
  | some (_, f) => f
def starOk (L a : Nat) : Option (Nat × Nat) → Prop
  | none => True
  | some (z, _) => 1 ≤ z ∧ z ≤ L ∧ z ≤ a
def nu (S L : Nat) (star : Int) (back a : Nat) : Nat := (S + 2 - (if star < 0 then 0 else back + 1)) * (L + 1) + (L - a)
theorem nu_star {S L a place : Nat} {star : Int} {back : Nat} (h : a < L) (hb : star < 0 ∨ back ≤ place) : nu S L (a : Int) place (a + 1) < nu S L star back a := by
  unfold nu
  rw [if_neg (by omega)]
  have : S + 2 - (place + 1) ≤ S + 2 - (if star < 0 then 0 else back + 1) := by split <;> omega
  have := Nat.mul_le_mul_right (L + 1) this
  omega
theorem nu_fit {S L a : Nat} {star : Int} {back : Nat} (h : a < L) : nu S L star back (a + 1) < nu S L star back a := by unfold nu; omega
theorem nu_back {S L a z back : Nat} {star : Int} (hs : 0 ≤ star) (hz : z ≤ L) (hb : back < S) : nu S L star (back + 1) z < nu S L star back a := by
  unfold nu
  rw [if_neg (by omega), if_neg (by omega)]
  have e : S + 2 - (back + 1) = (S + 2 - (back + 1 + 1)) + 1 := by omega
  rw [e, Nat.add_mul, Nat.one_mul]
  omega
theorem fits_q (g off : Nat) (k : Nat) (x : Nat) (c : UInt8) (w : World) (hk : c.toNat / 64 = k) (hk4 : k < 4) (hc : w.cell? ⟨g, off + 1 + k, none⟩ = some (.int .u64 x)) (hx : x < 18446744073709551616) :
    Calls Try.prog 47 #[.pointer (some ⟨g, off, none⟩), .int .u8 (c.toNat : Int)] w fun e w' => e = .returned (.bool (x.testBit (c.toNat % 64))) ∧ w' = w :=
  (fits_any g off k x c w hk hk4 hc hx).mono fun _ _ ⟨h1, h2⟩ => ⟨h1, h2.symm⟩
theorem drop_el {l : List El} {i : Nat} {e : El} (h : l[i]? = some e) : l.drop i = e :: l.drop (i + 1) := by
  obtain ⟨h1, h2⟩ := List.getElem?_eq_some_iff.1 h
  rw [List.drop_eq_getElem_cons h1, h2]

set_option maxHeartbeats 3000000 in
set_option maxRecDepth 100000 in
theorem matches_any (av : Option Addr) (L cv : Nat) (l : List El) (s : ByteArray) (w : World) (hl : l.length = L) (hE : ElsAt w.heap.size w av l) (hL : L ≤ 1000000) (hS : s.size ≤ 1000000) :
    Calls Try.prog 32 #[.slice av L cv, .string s] w (MatR (Mat l s.data.toList) w) := by
  have hlH := Lib.hid hl
  have hEH := Lib.hid hE
  obtain ⟨M, hM⟩ : ∃ M, Mat l s.data.toList = M := ⟨_, rfl⟩
  have hMH := Lib.hid hM
  have hsl : Hid (s.data.toList.length = s.size) := Lib.hid rfl
  rw [hM]
  clear hl hE hM
  go_enter Try.func32, Try.ntmps32
  go_wp2_with fail
  go_loopw [5, 6, 7, 8] (fun s5 s6 s7 s8 wr => ∃ (a k : Nat) (o : Option (Nat × Nat)), s5 = .int .i64 a ∧ s6 = .int .i64 k ∧ s7 = .int .i64 (starI o) ∧ s8 = .int .i64 (backI o : Nat) ∧ a ≤ L ∧ k ≤ s.size ∧ Hid (starOk L a o) ∧ Hid (Inv (fun i => l.drop i) s.data.toList M a k o) ∧ ∃ m, wr = w.drewN m) (fun s5 _ s7 s8 _ => nu s.size L (intOf s7) (intOf s8).toNat (intOf s5).toNat)
  case atStart => exact ⟨0, 0, none, rfl, rfl, rfl, rfl, Nat.zero_le _, Nat.zero_le _, Lib.hid trivial, Lib.hid ⟨by rw [← hMH.out]; exact Iff.rfl, Nat.zero_le _⟩, 0, rfl⟩
  case round =>
    obtain ⟨a, k, o, rfl, rfl, rfl, rfl, haL, hkS, hso, hI, m, rfl⟩ := hrel
    by_cases hlt : k < s.size
    · have hlt' : (k : Int) < (s.size : Int) := by omega
      have hlt2 : (0 : Int) ≤ (k : Int) := by omega
      obtain ⟨c, hc⟩ : ∃ c, s[k] = c := ⟨_, rfl⟩
      have hcH : Hid (s.data.toList[k]? = some c) := Lib.hid (by rw [← hc]; exact List.getElem?_eq_getElem hlt)
      obtain ⟨st, hst⟩ : ∃ st, starI o = st := ⟨_, rfl⟩
      obtain ⟨bk, hbk⟩ : ∃ bk, backI o = bk := ⟨_, rfl⟩
      have hbs : bk ≤ k := by
        rw [← hbk]
        rcases o with _ | ⟨z, f⟩
        · exact Nat.zero_le _
        · exact hI.out.from_le
      have hst1 : -1 ≤ st ∧ st < L := by
        rw [← hst]
        rcases o with _ | ⟨z, f⟩
        · exact ⟨Int.le_refl _, by show (-1 : Int) < L; omega⟩
        · obtain ⟨h1, h2, h3⟩ := hso.out
          exact ⟨by show (-1 : Int) ≤ (z : Int) - 1; omega, by show (z : Int) - 1 < L; omega⟩
      rw [hst, hbk]
      have hoH := Lib.hid (And.intro hst hbk)
      clear hst hbk
      obtain ⟨wq, hwq⟩ : ∃ wq, w.drewN m = wq := ⟨_, rfl⟩
      have hwqH := Lib.hid hwq
      rw [hwq]
      clear hwq
      by_cases haL2 : a < L
      · have haL' : (a : Int) < (L : Int) := by omega
        obtain ⟨e, he⟩ : ∃ e, l[a]? = some e := ⟨_, List.getElem?_eq_getElem (by rw [hlH.out]; exact haL2)⟩
        obtain ⟨b, off, x, rfl, hb, c0, cx, hR⟩ := hEH.out a e he
        have hde : Hid (l.drop a = e :: l.drop (a + 1)) := Lib.hid (drop_el he)
        have d0 : wq.cell? ⟨b, off + a * 5, none⟩ = some (.bool e.st) := by rw [← hwqH.out]; exact c0
        obtain ⟨kk, hkk⟩ : ∃ kk, c.toNat / 64 = kk := ⟨_, rfl⟩
        have hkk4 : kk < 4 := by have := c.toNat_lt; omega
        have d1 : wq.cell? ⟨b, off + a * 5 + 1 + kk, none⟩ = some (.int .u64 (x kk : Nat)) := by rw [← hwqH.out]; exact cx kk hkk4
        obtain ⟨fb, hfb⟩ : ∃ fb, (x kk).testBit (c.toNat % 64) = fb := ⟨_, rfl⟩
        have hfS : Hid (e.S c = fb) := Lib.hid (by rw [hR.2 c, hkk, hfb])
        have hfit : Hid (∀ n, Calls Try.prog 47 #[.pointer (some ⟨b, off + a * 5, none⟩), .int .u8 (c.toNat : Int)] (wq.drewN n) fun e w' => e = .returned (.bool fb) ∧ w' = wq.drewN n) := Lib.hid (fun n => by rw [← hfb]; exact fits_q b (off + a * 5) kk (x kk) c (wq.drewN n) hkk hkk4 d1 (hR.1 kk hkk4))
        obtain ⟨est, hest⟩ : ∃ est, e.st = est := ⟨_, rfl⟩
        rw [hest] at d0
        have hestH := Lib.hid hest
        clear he c0 cx hR d1 hkk hfb hest
        cases est
        · go_upto_region 8 with (rw [hc])
          go_quiet ((go_at_call 47; exact Calls.quiet_of_same (hfit.out _)))
          cases fb
          · have hnm : Hid (¬ Mat (l.drop a) (s.data.toList.drop k)) := Lib.hid (by rw [hde.out]; exact mat_no_set hestH.out hcH.out hfS.out)
            rcases o with _ | ⟨z, f⟩
            · obtain rfl : st = -1 := hoH.out.1.symm
              have hno : Hid (¬ M) := Lib.hid (hI.out.none_no hnm.out)
              go_wp2_with fail
              go_ret
              exact ⟨false, rfl, ⟨(fun h => by cases h), fun h => absurd h hno.out⟩, _, by rw [← hwqH.out, drew_add]⟩
            · obtain rfl : st = (z : Int) - 1 := hoH.out.1.symm
              obtain rfl : bk = f := hoH.out.2.symm
              have hz1 : 1 ≤ z := hso.out.1
              have hz2 := hso.out.2.1
              have hz3 : (0 : Int) ≤ (z : Int) - 1 := by omega
              have hz4 : (1 : Int) ≤ (z : Int) := by omega
              have hbk2 : bk < s.size := by omega
              go_wp2_with fail
              go_roundw
              case rel => exact ⟨z, bk + 1, some (z, bk + 1), rfl, by go_num, rfl, by show Value.int .i64 _ = .int .i64 ((bk + 1 : Nat) : Int); go_num, by omega, by omega, Lib.hid ⟨hz1, hz2, Nat.le_refl _⟩, Lib.hid (hI.out.back hbk2 hnm.out), _, by rw [← hwqH.out, drew_add]⟩
              case measure =>
                have := nu_back (S := s.size) (L := L) (a := a) (z := z) (back := bk) (star := (z : Int) - 1) hz3 hz2 hbk2
                simp only [intOf]
                rw [show ((z : Int)).toNat = z by omega, show ((bk : Int) + 1).toNat = bk + 1 by omega, show ((a : Int)).toNat = a by omega, show ((bk : Int)).toNat = bk by omega]
                exact this
          · go_wp2_with fail
            go_roundw
            case rel => exact ⟨a + 1, k + 1, o, by go_num, by go_num, by rw [hoH.out.1], by rw [hoH.out.2], by omega, by omega, Lib.hid (by
              have h := hso.out
              rcases o with _ | ⟨z, f⟩
              · trivial
              · exact ⟨h.1, h.2.1, by have := h.2.2; omega⟩), Lib.hid (hI.out.fit hde.out hestH.out hcH.out hfS.out), _, by rw [← hwqH.out, drew_add]⟩
            case measure =>
              have := nu_fit (S := s.size) (L := L) (a := a) (star := st) (back := bk) haL2
              simp only [intOf]
              rw [show ((a : Int) + 1).toNat = a + 1 by omega, show ((a : Int)).toNat = a by omega, show ((bk : Int)).toNat = bk by omega]
              exact this
        · go_wp2_with fail
          go_roundw
          case rel => exact ⟨a + 1, k, some (a + 1, k), by go_num, rfl, by show Value.int .i64 _ = .int .i64 (((a + 1 : Nat) : Int) - 1); rw [show (((a + 1 : Nat) : Int) - 1) = a by omega], rfl, by omega, by omega, Lib.hid ⟨by omega, by omega, by omega⟩, Lib.hid (hI.out.star hde.out hestH.out), m, hwqH.out.symm⟩
          case measure =>
            have := nu_star (S := s.size) (L := L) (a := a) (place := k) (star := st) (back := bk) haL2 (.inr hbs)
            simp only [intOf]
            rw [show ((a : Int) + 1).toNat = a + 1 by omega, show ((a : Int)).toNat = a by omega, show ((bk : Int)).toNat = bk by omega, show ((k : Int)).toNat = k by omega]
            exact this
      · have haL' : ¬ (a : Int) < (L : Int) := by omega
        have hd : decide ((a : Int) < (L : Int)) = false := decide_eq_false haL'
        have hnm : Hid (¬ Mat (l.drop a) (s.data.toList.drop k)) := Lib.hid (by
          rw [List.drop_eq_nil_of_le (by rw [hlH.out]; omega)]
          exact mat_no_nil (by rw [hsl.out]; exact hlt))
        go_upto_region 8 with fail
        go_quiet (fail)
        rcases o with _ | ⟨z, f⟩
        · obtain rfl : st = -1 := hoH.out.1.symm
          have hno : Hid (¬ M) := Lib.hid (hI.out.none_no hnm.out)
          go_wp2_with fail
          go_ret
          exact ⟨false, rfl, ⟨(fun h => by cases h), fun h => absurd h hno.out⟩, _, by rw [← hwqH.out, drew_add]⟩
        · obtain rfl : st = (z : Int) - 1 := hoH.out.1.symm
          obtain rfl : bk = f := hoH.out.2.symm
          have hz1 : 1 ≤ z := hso.out.1
          have hz2 := hso.out.2.1
          have hz3 : (0 : Int) ≤ (z : Int) - 1 := by omega
          have hz4 : (1 : Int) ≤ (z : Int) := by omega
          have hbk2 : bk < s.size := by omega
          go_wp2_with fail
          go_roundw
          case rel => exact ⟨z, bk + 1, some (z, bk + 1), rfl, by go_num, rfl, by show Value.int .i64 _ = .int .i64 ((bk + 1 : Nat) : Int); go_num, by omega, by omega, Lib.hid ⟨hz1, hz2, Nat.le_refl _⟩, Lib.hid (hI.out.back hbk2 hnm.out), _, by rw [← hwqH.out, drew_add]⟩
          case measure =>
            have := nu_back (S := s.size) (L := L) (a := a) (z := z) (back := bk) (star := (z : Int) - 1) hz3 hz2 hbk2
            simp only [intOf]
            rw [show ((z : Int)).toNat = z by omega, show ((bk : Int) + 1).toNat = bk + 1 by omega, show ((a : Int)).toNat = a by omega, show ((bk : Int)).toNat = bk by omega]
            exact this
    · have hlt' : ¬ (k : Int) < (s.size : Int) := by omega
      obtain rfl : k = s.size := by omega
      have hend : Hid (M ↔ Mat (l.drop a) []) := Lib.hid (by
        have h := hI.out
        rw [← hsl.out] at h
        exact h.at_end)
      obtain ⟨wq, hwq⟩ : ∃ wq, w.drewN m = wq := ⟨_, rfl⟩
      have hwqH := Lib.hid hwq
      rw [hwq]
      clear hwq hI hso
      go_wp2_with fail
      go_loop [5] (fun s5 => ∃ a' : Nat, a' ≤ L ∧ s5 = .int .i64 a' ∧ Hid (M ↔ Mat (l.drop a') [])) (fun s5 => L - (intOf s5).toNat)
      case atStart => exact ⟨a, haL, rfl, hend⟩
      case round =>
        obtain ⟨a', ha', rfl, hM'⟩ := hrel
        by_cases haL2 : a' < L
        · have haL' : (a' : Int) < (L : Int) := by omega
          obtain ⟨e, he⟩ : ∃ e, l[a']? = some e := ⟨_, List.getElem?_eq_getElem (by rw [hlH.out]; exact haL2)⟩
          obtain ⟨b, off, x, rfl, hb, c0, cx, hR⟩ := hEH.out a' e he
          have hde : Hid (l.drop a' = e :: l.drop (a' + 1)) := Lib.hid (drop_el he)
          have d0 : wq.cell? ⟨b, off + a' * 5, none⟩ = some (.bool e.st) := by rw [← hwqH.out]; exact c0
          obtain ⟨est, hest⟩ : ∃ est, e.st = est := ⟨_, rfl⟩
          rw [hest] at d0
          have hestH := Lib.hid hest
          clear he c0 cx hR hest
          cases est
          · have hno : Hid (¬ M) := Lib.hid (fun hm => by
              have h := hM'.out.1 hm
              rw [hde.out] at h
              exact mat_no_end hestH.out h)
            have hne : ((a' : Int) == (L : Int)) = false := beq_eq_false_iff_ne.2 (by omega)
            go_wp2_with fail
            go_ret
            exact ⟨false, rfl, ⟨(fun h => by cases h), fun h => absurd h hno.out⟩, _, hwqH.out.symm⟩
          · go_wp2_with fail
            go_round
            case rel => exact ⟨a' + 1, by omega, by go_num, Lib.hid (by rw [hM'.out, hde.out]; exact mat_end_star hestH.out)⟩
            case measure => simp [intOf]; omega
        · have haL' : ¬ (a' : Int) < (L : Int) := by omega
          obtain rfl : a' = L := by omega
          have hyes : Hid M := Lib.hid (hM'.out.2 (by rw [List.drop_eq_nil_of_le (by rw [hlH.out]; omega)]; rfl))
          go_wp2_with fail
          go_ret
          exact ⟨true, rfl, ⟨fun _ => hyes.out, fun _ => rfl⟩, _, hwqH.out.symm⟩
end Go.Proofs.Ytlaidmjlgjpgcaa
