/- The reference's letter, digit and Name; what its rows hold; find. No condition but that the rows lie as stated. -/
import Derived.Test.YtklepnldoajghaaVarAC
import Derived.Test.YtklepnldoajghaaVarV
import Derived.Test.YtklepnldoajghaaVarAD
namespace Go.Proofs.Ytklepnldoajghaa
open Go.RowKit Go.PlainAid
attribute [local go_sem] Oper.semAt_some

def letR (c : Int) : Bool := letB c || c == 95
theorem letR_of {c : Int} {p : Bool} (h : ((97 ≤ c ∧ c ≤ 122) ∨ (65 ≤ c ∧ c ≤ 90) ∨ c = 95) ↔ p = true) : letR c = p := by
  rw [Bool.eq_iff_iff, ← h]
  unfold letR letB
  rw [Bool.or_eq_true, decide_eq_true_iff, beq_iff_eq]
  omega

set_option maxHeartbeats 1000000 in
theorem letterR_any (c : Int) (w : World) : Calls Try.prog 49 #[.int .u8 c] w fun e w' => e = .returned (.bool (letR c)) ∧ w = w' := by
  by_cases h1 : 97 ≤ c <;> by_cases h2 : c ≤ 122 <;> by_cases h3 : 65 ≤ c <;> by_cases h4 : c ≤ 90 <;> by_cases h5 : c = 95
  all_goals first | (exfalso; omega) | skip
  all_goals
    go_enter Try.func49, Try.ntmps49
    go_wp2
    go_ret
    exact ⟨ret_bool (letR_of (by first | (simp; done) | (simp; omega))).symm, rfl⟩

set_option maxHeartbeats 400000 in
theorem digitR_any (c : Int) (w : World) : Calls Try.prog 50 #[.int .u8 c] w fun e w' => e = .returned (.bool (digB c)) ∧ w = w' := by
  by_cases h1 : 48 ≤ c <;> by_cases h2 : c ≤ 57
  all_goals
    go_enter Try.func50, Try.ntmps50
    go_wp2
    go_ret
    exact ⟨ret_bool (digB_of (by simp; omega)).symm, rfl⟩

set_option maxHeartbeats 1000000 in
theorem nameR_any (s : ByteArray) (w : World) (hs : s.size ≤ maxLen) : Calls Try.prog 34 #[.string s] w fun e w' => e = .returned (.bool (isName s)) ∧ w = w' := by
  unfold maxLen at hs
  have hb := get_bt s
  go_enter Try.func34, Try.ntmps34
  go_wp2
  go_loop [3] (fun i => ∃ k : Nat, k ≤ s.size ∧ i = .int .i64 k ∧ Hid (∀ m, m < k → nmOk s m = true)) (fun i => s.size - (intOf i).toNat)
  case atStart => exact ⟨0, Nat.zero_le _, rfl, Lib.hid (fun m h => absurd h (by omega))⟩
  case round =>
    obtain ⟨k, hk, rfl, hm⟩ := hrel
    by_cases hlt : k < s.size
    · cases hL : letR (bt s k) <;> cases hK : ((k : Int) == 0) <;> cases hD : digB (bt s k)
      all_goals
        have hn : Hid (nmOk s k = (letR (bt s k) || (!((k : Int) == 0) && digB (bt s k)))) := by
          unfold nmOk letR
          have : (k != 0) = !((k : Int) == 0) := by
            rw [bne, Bool.not_inj_iff, Bool.eq_iff_iff]; simp
          rw [this]
          exact rfl
        rw [hL, hK, hD] at hn
        go_wp2_with (first
          | (go_at_call 49; refine (letterR_any _ _).mono ?_; rintro e w' ⟨rfl, rfl⟩)
          | (go_at_call 50; refine (digitR_any _ _).mono ?_; rintro e w' ⟨rfl, rfl⟩))
        first
        | (go_ret
           exact ⟨ret_bool (isName_bad hlt hn.out).symm, rfl⟩)
        | (go_round
           case rel => exact ⟨k + 1, by omega, by go_num, Lib.hid (fun m h => by
             by_cases e : m = k
             · subst e; exact hn.out
             · exact hm.out m (by omega))⟩
           case measure => simp [intOf]; omega)
    · obtain rfl : k = s.size := by omega
      by_cases h0 : s.size = 0
      · have e0 := size0 h0
        have hr := Lib.hid (isName_empty h0)
        subst e0
        go_wp2
        go_ret
        exact ⟨ret_bool hr.out.symm, rfl⟩
      · have hr := Lib.hid (isName_yes h0 hm.out)
        have hne : (!s.toList.isEmpty) = true := str_ne h0
        clear h0
        go_wp2
        go_ret
        exact ⟨ret_bool hr.out.symm, rfl⟩

/-- A variable as the reference has it. -/
def rcs (x : ByteArray × Vb) : List Value := [.string x.1, .string x.2.val, .bool x.2.ex, .bool x.2.ro, .bool (!x.2.st)]
theorem rcs_len (x : ByteArray × Vb) : (rcs x).length = 5 := rfl
theorem rcs_one (x : ByteArray × Vb) : ∀ u ∈ rcs x, u.oneCell' = true := by simp [rcs, Value.oneCell']
theorem info73 : (Try.prog.info? 73).map (fun i => (i.zero, i.size, i.bytes)) = some (some (.agg #[.string ByteArray.empty, .string ByteArray.empty, .bool false, .bool false, .bool false]), 5, 40) := by kernel_rfl

/-- The reference's variables in memory. -/
structure RefAt (n₀ : Nat) (w : World) (q : Nat) (L : Vl) (A : List ByteArray) (lv av : Value) : Prop where
  blk : Blk w q 30 #[lv, av]
  base : n₀ ≤ q
  list : w.ownsRow n₀ 73 5 lv L.length (flat rcs L)
  args : TxAt w av A
  abase : ∀ g, av.ownBlock = some g → A ≠ [] → n₀ ≤ g
  srt : Sorted (ks L)
  len : L.length ≤ 64
  alen : A.length ≤ 200

theorem RefAt.beneath {n₀ : Nat} {w w1 : World} {q : Nat} {L : Vl} {A : List ByteArray} {lv av : Value} (h : RefAt n₀ w q L A lv av) (hb : Below w.heap.size w w1) : RefAt n₀ w1 q L A lv av :=
  ⟨blk_beneath h.blk hb, h.base, row_beneath h.list hb, h.args.beneath hb, h.abase, h.srt, h.len, h.alen⟩

/-- What find tells. -/
def fnd (L : Vl) (x : ByteArray) : Int := if has (ks L) x then (pos (ks L) x : Nat) else -1
theorem pos_first {L : Vl} {x : ByteArray} (hs : Sorted (ks L)) {j : Nat} {y : ByteArray × Vb} (hy : L[j]? = some y) (e : y.1 = x) : fnd L x = j := by
  have hk := ks_at hy
  rw [e] at hk
  have hh : has (ks L) x = true := (has_iff hs).2 (List.mem_of_getElem? hk)
  unfold fnd
  rw [if_pos hh, ← idx_pos hs hk]
theorem fnd_none {L : Vl} {x : ByteArray} (hs : Sorted (ks L)) (h : ∀ (j : Nat) (y : ByteArray × Vb), L[j]? = some y → y.1 ≠ x) : fnd L x = -1 := by
  unfold fnd
  rw [if_neg]
  intro hh
  obtain ⟨y, hy⟩ := of_ks ((has_iff hs).1 hh)
  obtain ⟨t, ht⟩ := List.mem_iff_getElem?.1 hy
  exact h t _ ht rfl

set_option maxHeartbeats 2000000 in
theorem find_any {n₀ q : Nat} {L : Vl} {A : List ByteArray} {lv av : Value} (x : ByteArray) (w : World) (h : RefAt n₀ w q L A lv av) :
    Calls Try.prog 35 #[.pointer (some ⟨q, 0, none⟩), .string x] w fun e w' => e = .returned (.int .i64 (fnd L x)) ∧ w' = w := by
  obtain ⟨a0, c0, rfl⟩ := ownsRow_slice h.list
  have p0 : w.cell? ⟨q, 0, none⟩ = some (.slice a0 L.length c0) := h.blk.cell 0
  have hH := Lib.hid h
  obtain ⟨N, hN⟩ : ∃ N, L.length = N := ⟨_, rfl⟩
  have hl := h.len
  rw [hN] at p0 hl
  have hNH := Lib.hid hN
  clear h hN
  go_enter Try.func35, Try.ntmps35
  go_wp2_with fail
  go_loop [5] (fun i => ∃ k : Nat, k ≤ N ∧ i = .int .i64 k ∧ Hid (∀ (j : Nat) (y : ByteArray × Vb), j < k → L[j]? = some y → y.1 ≠ x)) (fun i => N - (intOf i).toNat)
  case atStart => exact ⟨0, Nat.zero_le _, rfl, Lib.hid (fun j y hj => absurd hj (by omega))⟩
  case round =>
    obtain ⟨k, hk, rfl, hno⟩ := hrel
    by_cases hlt : k < N
    · obtain ⟨y, hy⟩ : ∃ y, L[k]? = some y := ⟨_, List.getElem?_eq_getElem (by rw [hNH.out]; exact hlt)⟩
      obtain ⟨g, cap, e1, _, hc, _, _⟩ := row_at rcs_len hH.out.list hy
      obtain rfl : a0 = some ⟨g, 0, none⟩ := by simp at e1; exact e1.1
      have d0 : w.cell? ⟨g, k * 5, none⟩ = some (.string y.1) := hc 0 _ rfl
      have hyH := Lib.hid hy
      clear hy hc e1
      by_cases e : y.1 = x
      · have hf : Hid (fnd L x = k) := Lib.hid (pos_first hH.out.srt hyH.out e)
        rw [e] at d0
        clear e
        go_wp2_with fail
        go_ret
        exact ⟨by rw [hf.out]; rfl, rfl⟩
      · have e' : (y.1.toList == x.toList) = false := by
          cases g : y.1.toList == x.toList with
          | false => rfl
          | true => exact absurd (toList_inj (eq_of_beq g)) e
        have e2 : ¬ y.1.toList = x.toList := fun g => e (toList_inj g)
        have eH := Lib.hid e
        clear e
        go_wp2_with fail
        go_round
        case rel => exact ⟨k + 1, by omega, by go_num, Lib.hid (fun j y' hj hy' => by
          by_cases q : j = k
          · subst q
            rw [hyH.out] at hy'
            rw [← Option.some.inj hy']
            exact eH.out
          · exact hno.out j y' (by omega) hy')⟩
        case measure => simp [intOf]; omega
    · obtain rfl : k = N := by omega
      have hf : Hid (fnd L x = -1) := Lib.hid (fnd_none hH.out.srt (fun j y hy => hno.out j y (by rw [← hNH.out]; exact (List.getElem?_eq_some_iff.1 hy).1) hy))
      go_wp2_with fail
      go_ret
      exact ⟨by rw [hf.out]; rfl, rfl⟩
end Go.Proofs.Ytklepnldoajghaa
