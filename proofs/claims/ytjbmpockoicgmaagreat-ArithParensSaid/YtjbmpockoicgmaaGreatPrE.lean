/- ArithParens' walk. Condition: the text and the variables lie as they came in. -/
import Derived.Test.YtjbmpockoicgmaaGreatPrD
import Derived.Test.YtjbmpockoicgmaaGreatEvC
namespace Go.Proofs.YtjbmpockoicgmaaGreat
open Go.RowKit Go.Shelf Go.PlainAid Go.Deep
set_option linter.unusedVariables false
set_option linter.unusedSimpArgs false
attribute [local go_sem] Oper.semAt_some
/-- The first i bytes are blank. -/
def blR (s : ByteArray) : Nat → Bool
  | 0 => true
  | i + 1 => blR s i && blankB (bt s i)
theorem blR_all {s : ByteArray} : ∀ {i : Nat}, blR s i = true → ∀ j, j < i → blankB (bt s j) = true
  | 0, _, j, h => by omega
  | i + 1, h, j, hj => by
    obtain ⟨h1, h2⟩ := Bool.and_eq_true_iff.1 (show (blR s i && blankB (bt s i)) = true from h)
    by_cases e : j = i
    · rw [e]; exact h2
    · exact blR_all h1 j (by omega)
theorem blR_of {s : ByteArray} (h : Blank s) : ∀ i, i ≤ s.size → blR s i = true
  | 0, _ => rfl
  | i + 1, hi => by
    show (blR s i && blankB (bt s i)) = true
    rw [blR_of h i (by omega), h i (by omega)]
    rfl
theorem blR_no {s : ByteArray} {i : Nat} (h : blR s i = false) : Value.bool false = .bool (blR s (i + 1)) := by
  show _ = Value.bool (blR s i && blankB (bt s i))
  rw [h]; rfl
theorem blR_yes {s : ByteArray} {i : Nat} {b : Bool} (h : blR s i = true) (hb : blankB (bt s i) = b) : Value.bool b = .bool (blR s (i + 1)) := by
  show _ = Value.bool (blR s i && blankB (bt s i))
  rw [h, hb]; rfl
theorem evalr_c (w : World) (s : ByteArray) (hs : s.size ≤ 100000) (va : Option Addr) (vc : Nat) (L : List Vr) (hL : L.length ≤ vc) (hV : VAt (fun _ => False) w va L) {n e : Int} {S : List (ByteArray × I64)} (hv : evalM s L = (n, S, e)) :
    Calls Tryz.prog 8 #[.string s, .slice va L.length vc] w fun r w' => ∃ sv, r = .returned (.tuple #[.int .i64 n, sv, .int .i64 e]) ∧ w'.ownsRow 0 37 2 sv S.length (flat scs S) ∧ Below w.heap.size w w' := by
  have h := eval_c w s hs va vc L hL hV
  rw [hv] at h
  exact h
/-- The two readings' ways. -/
theorem par_ways (s : ByteArray) (L : List Vr) (hs : s.size ≤ 2000) : ∃ n S e m K f, evalM s L = (n, S, e) ∧ evalM (parT s) L = (m, K, f) ∧ S.length ≤ 3000 ∧ ((blR s s.size = true ∧ n = 0 ∧ e = 0 ∧ f = 60) ∨ (blR s s.size = false ∧ ((e = 0 ∧ f = 52) ∨ (e = 0 ∧ f = 0 ∧ m = n ∧ K = S) ∨ (e ≠ 0 ∧ n = 0 ∧ S = [])))) := by
  have hl := sets_len s L
  by_cases hb : Blank s
  · obtain ⟨h1, h2⟩ := blank_eval hb L
    exact ⟨_, _, _, _, _, _, h1, h2, Nat.zero_le _, .inl ⟨blR_of hb _ (Nat.le_refl _), rfl, rfl, rfl⟩⟩
  · have hbf : blR s s.size = false := by
      cases h : blR s s.size with
      | false => rfl
      | true => exact absurd (fun j hj => blR_all h j hj) hb
    obtain ⟨R, hR⟩ : ∃ R, evalM s L = R := ⟨_, rfl⟩
    obtain ⟨R', hR'⟩ : ∃ R', evalM (parT s) L = R' := ⟨_, rfl⟩
    obtain ⟨n, S, e⟩ := R
    obtain ⟨m, K, f⟩ := R'
    have hpe := par_eval hb L
    have hne := eval_none (s := s) (L := L)
    rw [hR] at hl hpe hne
    rw [hR'] at hpe
    refine ⟨n, S, e, m, K, f, hR, hR', by dsimp only at hl; omega, .inr ⟨hbf, ?_⟩⟩
    by_cases he : e = 0
    · rcases hpe he with h | h
      · obtain ⟨rfl, rfl, rfl⟩ : m = 0 ∧ K = [] ∧ f = 52 := by simpa using h
        exact .inl ⟨he, rfl⟩
      · obtain ⟨rfl, rfl, rfl⟩ : m = n ∧ K = S ∧ f = e := by simpa using h
        exact .inr (.inl ⟨he, he, rfl, rfl⟩)
    · exact .inr (.inr ⟨he, hne he⟩)
set_option maxRecDepth 100000 in
set_option maxHeartbeats 2000000 in
theorem arithParens_w (s : ByteArray) (A : Option Addr) (len cap : Nat) (L : List Vr) (w : World) (ws : s.size ≤ maxLen) (hn : L.length = len) (hv : VarsAt w A L) (hz : ∀ x ∈ L, x.name.size ≤ maxLen ∧ x.val.size ≤ maxLen) (hc : len ≤ cap) (hl : L.length ≤ 1000000000000000) :
    Calls Tryz.prog 3 #[.string s, .slice A len cap] w fun e w' => e = .returned (.bool true) ∧ Below w.heap.size w w' := by
  have haw := Lib.hid (awake_c w)
  have hV := vat_vars hv hl hz
  subst hn
  unfold maxLen at ws
  by_cases h2 : 2000 < s.size
  · have h2d : decide ((2000 : Int) < (s.size : Int)) = true := decide_eq_true (by omega)
    clear hV hv hz
    go_enter Tryz.func3, Tryz.ntmps3
    go_wp2_with (go_at_call 7; refine haw.out.mono ?_; rintro e w1 ⟨rfl, hb1⟩; have hb1H := Lib.hid hb1; clear hb1)
    go_ret
    exact ⟨rfl, hb1H.out⟩
  · have h2d : decide ((2000 : Int) < (s.size : Int)) = false := decide_eq_false (by omega)
    obtain ⟨n, S, e, m, K, f, hR, hR', hS, hway⟩ := par_ways s L (by omega)
    have hpz := sz_par s
    have hVH := Lib.hid hV
    have e1 := Lib.hid (fun (W : World) (hb : Below w.heap.size w W) => evalr_c W s (by omega) A cap L hc (hV.keep hb.size (fun g h _ => hb.block g h) (fun g h => h.elim)) hR)
    have e2 := Lib.hid (fun (W : World) (hb : Below w.heap.size w W) => evalr_c W (parT s) (by omega) A cap L hc (hV.keep hb.size (fun g h _ => hb.block g h) (fun g h => h.elim)) hR')
    unfold parT lpB rpB at e2
    obtain ⟨N, hN⟩ : ∃ N, L.length = N := ⟨_, rfl⟩
    rw [hN] at e1 e2 ⊢
    have hb := get_bt s
    have l1 : ¬ 9223372036854775807 < 1 + s.size := by omega
    have l2 : ¬ 9223372036854775807 < 1 + s.size + 1 := by omega
    obtain ⟨z, hz9⟩ : ∃ z, s.size = z := ⟨_, rfl⟩
    rw [hz9] at hway
    have hwayH := Lib.hid hway
    have hSH := Lib.hid hS
    clear hV hv hz hR hR' hN hVH hpz hway hS
    go_enter Tryz.func3, Tryz.ntmps3
    go_upto_region 7 with (first
      | (go_at_call 8; refine (e2.out _ hc2.out).mono ?_; rintro r w3 ⟨sv, rfl, hrow, hb3⟩; have hrow3 := Lib.hid hrow; obtain ⟨a3, c3, rfl⟩ := row_ge0 hrow; have hb3H := Lib.hid hb3; clear hrow hb3)
      | (go_at_call 8; refine (e1.out _ hb1H.out).mono ?_; rintro r w2 ⟨sv, rfl, hrow, hb2⟩; have hrow2 := Lib.hid hrow; obtain ⟨a2, c2, rfl⟩ := row_ge0 hrow; have hc2 := Lib.hid (hb1H.out.trans (hb2.mono hb1H.out.size)); clear hrow hb2)
      | (go_at_call 7; refine haw.out.mono ?_; rintro e w1 ⟨rfl, hb1⟩; have hb1H := Lib.hid hb1; clear hb1))
    go_wp2_with fail
    go_loopw [11, 12] (fun s11 s12 wr => ∃ i : Nat, i ≤ z ∧ s12 = .int .i64 i ∧ s11 = .bool (blR s i) ∧ wr = w3) (fun _ s12 _ => z - (intOf s12).toNat)
    case atStart => exact ⟨0, Nat.zero_le _, by go_num, rfl, rfl⟩
    case round =>
      obtain ⟨i, hi, rfl, rfl, rfl⟩ := hrel
      by_cases hlt : i < z
      · have hrd : ∀ b : Bool, blankB (bt s i) = b → (blR s i = true → Value.bool b = .bool (blR s (i + 1))) := fun b hb h => blR_yes h hb
        have hrd0 := blR_no (s := s) (i := i)
        obtain ⟨b0, hb0⟩ : ∃ b, blR s i = b := ⟨_, rfl⟩
        rw [hb0] at hrd hrd0 ⊢
        obtain ⟨v1, hv1⟩ : ∃ v, Value.bool (blR s (i + 1)) = v := ⟨_, rfl⟩
        rw [hv1] at hrd hrd0
        have hv1H := Lib.hid hv1
        clear hv1 hb0
        have hrdH := Lib.hid hrd
        have hrd0H := Lib.hid hrd0
        clear hrd hrd0
        cases b0
        · go_wp2_with fail
          go_roundw
          case rel => exact ⟨i + 1, by omega, by go_num, (hrd0H.out rfl).trans hv1H.out.symm, trivial⟩
          case measure => simp [intOf]; omega
        · rcases (show bt s i = 9 ∨ bt s i = 10 ∨ bt s i = 32 ∨ ¬ (bt s i = 9 ∨ bt s i = 10 ∨ bt s i = 32) by omega) with h | h | h | h
          · have q := hrdH.out true (by rw [h]; rfl) rfl
            have qH := Lib.hid q
            clear q
            go_wp2_with fail
            go_roundw
            case rel => exact ⟨i + 1, by omega, by go_num, qH.out.trans hv1H.out.symm, trivial⟩
            case measure => simp [intOf]; omega
          · have q := hrdH.out true (by rw [h]; rfl) rfl
            have qH := Lib.hid q
            clear q
            go_wp2_with fail
            go_roundw
            case rel => exact ⟨i + 1, by omega, by go_num, qH.out.trans hv1H.out.symm, trivial⟩
            case measure => simp [intOf]; omega
          · have q := hrdH.out true (by rw [h]; rfl) rfl
            have qH := Lib.hid q
            clear q
            go_wp2_with fail
            go_roundw
            case rel => exact ⟨i + 1, by omega, by go_num, qH.out.trans hv1H.out.symm, trivial⟩
            case measure => simp [intOf]; omega
          · have q := hrdH.out false (decide_eq_false h) rfl
            have qH := Lib.hid q
            have k1 : (bt s i == 9) = false := beq_eq_false_iff_ne.2 (by omega)
            have k2 : (bt s i == 10) = false := beq_eq_false_iff_ne.2 (by omega)
            have k3 : (bt s i == 32) = false := beq_eq_false_iff_ne.2 (by omega)
            clear q h
            go_wp2_with fail
            go_roundw
            case rel => exact ⟨i + 1, by omega, by go_num, qH.out.trans hv1H.out.symm, trivial⟩
            case measure => simp [intOf]; omega
      · obtain rfl : i = z := by omega
        rcases hwayH.out with ⟨h1, rfl, rfl, rfl⟩ | ⟨h1, h3⟩
        · rw [h1]
          go_wp2_with fail
          go_ret
          exact ⟨rfl, hc2.out.trans (hb3H.out.mono hc2.out.size)⟩
        · rw [h1]
          clear hwayH
          rcases h3 with ⟨rfl, rfl⟩ | ⟨rfl, rfl, rfl, rfl⟩ | ⟨h4, rfl, rfl⟩
          · go_wp2_with fail
            go_ret
            exact ⟨rfl, hc2.out.trans (hb3H.out.mono hc2.out.size)⟩
          · have hsm := Lib.hid (same_any (row_beneath hrow2.out hb3H.out) hrow3.out (by have := hSH.out; omega))
            go_wp2_with (go_at_call 9; refine hsm.out.mono ?_; rintro r w4 ⟨rfl, hb4⟩; have hb4H := Lib.hid hb4; clear hb4)
            go_ret
            exact ⟨rfl, (hc2.out.trans (hb3H.out.mono hc2.out.size)).trans (hb4H.out.mono (Nat.le_trans hc2.out.size hb3H.out.size))⟩
          · have h5 : (e == 0) = false := beq_eq_false_iff_ne.2 h4
            clear h4
            go_wp2_with fail
            go_ret
            exact ⟨rfl, hc2.out.trans (hb3H.out.mono hc2.out.size)⟩
end Go.Proofs.YtjbmpockoicgmaaGreat
