/- Where a word's reader finds an end; whether a substitution is an expression. No condition. -/
import Derived.Test.YtgpkhpheomaiaaaRdF
import Derived.IntWalk
namespace Go.Proofs.Ytgpkhpheomaiaaa
open Go.RowKit Go.PlainAid
attribute [local go_sem] Oper.semAt_some

section
variable {w : World} {b n₀ : Nat} {t : ByteArray} {k d : Int} {D : Nat} {st : St} {O : Nat → Prop}

theorem isQuoted_q {a0 a1 : Option Addr} {n0 c0 n1 c1 : Nat} {q o : Bool} (h : Blk w b 59 (rd t k d a0 n0 c0 a1 n1 c1 q o)) : Calls Try.prog 36 #[.pointer (some ⟨b, 0, none⟩)] w fun e w' => e = .returned (.bool (k != 0)) ∧ ∃ m, w' = w.drewN m :=
  (quoted_any h).mono fun _ _ ⟨h1, h2⟩ => ⟨h1, 0, h2⟩
theorem end_q (s : ByteArray) (i kk : Nat) (d : Int) (q : Bool) (w : World) (hs : s.size ≤ 65536) (hi : i < s.size) (hd : d + kk = 24) (hd0 : 0 ≤ d) :
    Calls Try.prog 49 #[.string s, .int .i64 i, .int .i64 d, .bool q] w fun e w' => e = .returned (.tuple #[.int .i64 (endM s i kk q).next, .int .i64 (endM s i kk q).place, .int .i64 (endM s i kk q).err]) ∧ ∃ m, w' = w.drewN m :=
  (end_any s i kk d q w hs hi hd hd0).mono fun _ _ ⟨h1, h2⟩ => ⟨h1, 0, h2.symm⟩

set_option maxHeartbeats 2000000 in
theorem rend_rd (h : Rd w b n₀ t k d D st O) (i kk : Nat) (ht : t.size ≤ 65536) (hi : i < t.size) (hd : d + kk = 24) (hd0 : 0 ≤ d) :
    Calls Try.prog 43 #[.pointer (some ⟨b, 0, none⟩), .int .i64 i] w fun e w' => e = .returned (.tuple #[.int .i64 (endM t i kk (k != 0)).next, .int .i64 (endM t i kk (k != 0)).err]) ∧ ∃ m, w' = w.drewN m := by
  obtain ⟨a0, n0, c0, a1, c1, hB⟩ := h.blk
  have e0 : w.cell? ⟨b, 0, none⟩ = some (.string t) := hB.cell 0
  have e2 : w.cell? ⟨b, 2, none⟩ = some (.int .i64 d) := hB.cell 2
  have hH := Lib.hid hB
  have hdH := Lib.hid hd
  clear h hB hd
  go_enter Try.func43, Try.ntmps43
  go_wp2_with fail
  go_quiet ((first
    | (go_at_call 36; exact Calls.quiet_of (isQuoted_q (by exact hH.out)))
    | (go_at_call 49; exact Calls.quiet_of (end_q _ _ kk _ _ _ ht hi hdH.out hd0))))
  go_wp2
  go_ret2
  exact ⟨rfl, _, rfl⟩

/-- Is what stands between parentheses an expression? -/
def exprM (s : ByteArray) (kk : Nat) (q : Bool) : Bool := Lib.hasPrefix s.data.toList [40] && decide ((endM (⟨#[36]⟩ ++ s) 0 kk q).err = 0) && decide ((endM (⟨#[36]⟩ ++ s) 0 kk q).next = s.size + 1)

set_option maxHeartbeats 2000000 in
theorem isExpression_rd (h : Rd w b n₀ t k d D st O) (s : ByteArray) (kk : Nat) (hs : s.size < 65536) (hd : d + kk = 24) (hd0 : 0 ≤ d) :
    Calls Try.prog 52 #[.pointer (some ⟨b, 0, none⟩), .string s] w fun e w' => e = .returned (.bool (exprM s kk (k != 0))) ∧ ∃ m, w' = w.drewN m := by
  obtain ⟨a0, n0, c0, a1, c1, hB⟩ := h.blk
  have e2 : w.cell? ⟨b, 2, none⟩ = some (.int .i64 d) := hB.cell 2
  have hH := Lib.hid hB
  have hdH := Lib.hid hd
  clear h hB hd
  cases hp : Lib.hasPrefix s.data.toList (⟨#[40]⟩ : ByteArray).data.toList
  · have hr : Hid (exprM s kk (k != 0) = false) := Lib.hid (by unfold exprM; rw [show Lib.hasPrefix s.data.toList [40] = false from hp]; rfl)
    have hpH := Lib.hid hp
    clear hp
    go_enter Try.func52, Try.ntmps52
    go_wp2_with (go_at_call 44; refine (Try.strings_HasPrefix _ _ _).mono ?_; rintro e w' ⟨rfl, rfl⟩; rw [hpH.out])
    go_ret
    rw [hr.out]
    exact ⟨rfl, 0, rfl⟩
  · have hz : ((⟨#[36]⟩ : ByteArray) ++ s).size ≤ 65536 := by rw [ByteArray.size_append]; show 1 + s.size ≤ _; omega
    have hz0 : 0 < ((⟨#[36]⟩ : ByteArray) ++ s).size := by rw [ByteArray.size_append]; show 0 < 1 + s.size; omega
    obtain ⟨⟨nx, pl, er⟩, hE⟩ : ∃ r, endM (⟨#[36]⟩ ++ s) 0 kk (k != 0) = r := ⟨_, rfl⟩
    have hcall := Lib.hid (fun w => end_q (⟨#[36]⟩ ++ s) 0 kk d (k != 0) w hz hz0 hdH.out hd0)
    rw [hE] at hcall
    have hr : Hid (exprM s kk (k != 0) = (decide (er = 0) && decide (nx = s.size + 1))) := Lib.hid (by unfold exprM; rw [show Lib.hasPrefix s.data.toList [40] = true from hp, hE]; rfl)
    have hpH := Lib.hid hp
    have hzH := Lib.hid hz
    clear hp hE hz hz0
    have hgrow : (1 : Nat) + s.size ≤ 65536 := by omega
    by_cases h1 : er = 0
    · by_cases h2 : nx = s.size + 1
      all_goals
        first | rw [decide_eq_true h1, decide_eq_true h2] at hr | rw [decide_eq_true h1, decide_eq_false h2] at hr
        have hE0 : ((er : Int) == 0) = true := by simp; omega
        first | (have hN : ((nx : Int) == (s.size : Int) + 1) = true := by (simp; omega)) | (have hN : ((nx : Int) == (s.size : Int) + 1) = false := by (simp; omega))
        have h1H := Lib.hid h1
        have h2H := Lib.hid h2
        clear h1 h2
        go_enter Try.func52, Try.ntmps52
        go_wp2_with (go_at_call 44; refine (Try.strings_HasPrefix _ _ _).mono ?_; rintro e w' ⟨rfl, rfl⟩; rw [hpH.out])
        go_quiet ((first
          | (go_at_call 36; exact Calls.quiet_of (isQuoted_q (by exact hH.out)))
          | (go_at_call 49; exact Calls.quiet_of (hcall.out _))))
        go_wp2
        go_ret
        rw [hr.out]
        exact ⟨rfl, _, rfl⟩
    · rw [decide_eq_false h1] at hr
      have hE0 : ((er : Int) == 0) = false := by simp; omega
      have h1H := Lib.hid h1
      clear h1
      go_enter Try.func52, Try.ntmps52
      go_wp2_with (go_at_call 44; refine (Try.strings_HasPrefix _ _ _).mono ?_; rintro e w' ⟨rfl, rfl⟩; rw [hpH.out])
      go_quiet ((first
        | (go_at_call 36; exact Calls.quiet_of (isQuoted_q (by exact hH.out)))
        | (go_at_call 49; exact Calls.quiet_of (hcall.out _))))
      go_wp2
      go_ret
      rw [hr.out]
      exact ⟨rfl, _, rfl⟩
end
end Go.Proofs.Ytgpkhpheomaiaaa
