/- Parts of word, and the laws' awake. No condition. -/
import Derived.Test.YtgpkhpheomaiaaaRdQ
namespace Go.Proofs.Ytgpkhpheomaiaaa
open Go.RowKit Go.PlainAid
attribute [local go_sem] Oper.semAt_some

def topM (s : ByteArray) (k : Int) : Except Nat (List PT) := if k = 0 ∨ k = 1 ∨ k = 2 then partsM 24 s k else .error 73

section
variable {P : Program} {f : FuncId} {args : Array Value} {w w0 : World} {D : Nat}
theorem pr_bad {er : Nat} {res : Except Nat (List PT)} (h : Calls P f args w (PartsR res D w0)) (hres : res = .error er) : Calls P f args w fun e w' => e = .returned (.tuple #[.slice none 0 0, .int .i64 er]) ∧ er ≠ 0 ∧ Below w0.heap.size w0 w' := h.mono (by
  rintro e w' ⟨hb, ⟨er', h1, h2, h3⟩ | ⟨l, a, c, T, h1, _⟩⟩
  · rw [hres] at h1; cases h1; exact ⟨h3, h2, hb⟩
  · rw [hres] at h1; cases h1)
theorem pr_good {l : List PT} {res : Except Nat (List PT)} (h : Calls P f args w (PartsR res D w0)) (hres : res = .ok l) : Calls P f args w fun e w' => ∃ a c T, e = .returned (.tuple #[.slice a l.length c, .int .i64 0]) ∧ WAt w' T D (.slice a l.length c) l ∧ (∀ g, T g → w0.heap.size ≤ g ∧ g < w'.heap.size) ∧ Below w0.heap.size w0 w' := h.mono (by
  rintro e w' ⟨hb, ⟨er', h1, h2, h3⟩ | ⟨l, a, c, T, h1, h2, h3, h4⟩⟩
  · rw [hres] at h1; cases h1
  · rw [hres] at h1; cases h1; exact ⟨a, c, T, h2, h3, h4, hb⟩)
end

set_option maxHeartbeats 2000000 in
theorem Parts_any (s : ByteArray) (k : Int) (w : World) (hs : s.size ≤ 65536) : Calls Try.prog 9 #[.string s, .int .i64 k] w (PartsR (topM s k) 25 w) := by
  have hs2 : ¬ 65536 < s.size := by omega
  by_cases hk : k = 0 ∨ k = 1 ∨ k = 2
  · have hr : Hid (topM s k = partsM 24 s k) := Lib.hid (by unfold topM; rw [if_pos hk])
    rw [hr.out]
    have hc := Lib.hid (parts_any 24 0 (by decide) (Int.le_refl _) s k w hs hk)
    clear hr
    cases hres : partsM 24 s k with
    | error er =>
      have hcb := Lib.hid (pr_bad hc.out hres)
      clear hres hc
      rcases hk with rfl | rfl | rfl
      all_goals
        go_enter Try.func9, Try.ntmps9
        go_wp2_with (go_at_call 16; refine hcb.out.mono ?_; rintro e w' ⟨rfl, h1, h2⟩)
        go_ret2
        exact ⟨h2, .inl ⟨er, rfl, h1, rfl⟩⟩
    | ok l =>
      have hcg := Lib.hid (pr_good hc.out hres)
      clear hres hc
      rcases hk with rfl | rfl | rfl
      all_goals
        go_enter Try.func9, Try.ntmps9
        go_wp2_with (go_at_call 16; refine hcg.out.mono ?_; rintro e w' ⟨a, c, T, rfl, h1, h2, h3⟩; have hh := Lib.hid (And.intro h1 (And.intro h2 h3)); clear h1 h2 h3)
        go_ret2
        exact ⟨hh.out.2.2, .inr ⟨l, a, c, T, rfl, rfl, hh.out.1, hh.out.2.1⟩⟩
  · have hr : Hid (topM s k = .error 73) := Lib.hid (by unfold topM; rw [if_neg hk])
    rw [hr.out]
    have h0 : (k != 0) = true := by simp; omega
    have h1 : (k != 1) = true := by simp; omega
    have h2 : (k != 2) = true := by simp; omega
    clear hk hr
    go_enter Try.func9, Try.ntmps9
    go_wp2
    go_ret2
    exact ⟨Below.refl _ _, .inl ⟨73, rfl, by decide, rfl⟩⟩

theorem aw_parts : topM ⟨#[97, 39, 98, 39, 36, 120]⟩ 0 = .ok [.mk 1 ⟨#[97]⟩ ⟨#[]⟩ [] false, .mk 1 ⟨#[98]⟩ ⟨#[]⟩ [] true, .mk 2 ⟨#[120]⟩ ⟨#[]⟩ [] false] := by kernel_rfl

set_option maxHeartbeats 2000000 in
theorem awake_any (w : World) : Calls Try.prog 6 #[] w fun e w' => e = .returned (.bool true) ∧ Below w.heap.size w w' := by
  have hc := Lib.hid (pr_good (Parts_any ⟨#[97, 39, 98, 39, 36, 120]⟩ 0 w (by decide)) aw_parts)
  go_enter Try.func6, Try.ntmps6
  go_wp2_with fail
  refine hc.out.mono ?_
  rintro e w' ⟨a, c, T, rfl, h1, h2, h3⟩
  obtain ⟨g, x, p, rfl, _, hp, hx, k0, k1, k2, k3, k4⟩ := part_at (j := 1) h1 (by decide)
  obtain ⟨g', y, q, e2, _, hq, hy, m0, m1, m2, m3, m4⟩ := part_at (j := 2) h1 (by decide)
  cases e2
  cases hp
  cases hq
  have k4' : w'.cell? ⟨g, 9, none⟩ = some (.bool true) := by have h := k4; rw [hx.2.2.2.1] at h; exact h
  have m0' : w'.cell? ⟨g, 10, none⟩ = some (.int .i64 2) := by have h := m0; rw [hy.1] at h; exact h
  have m1' : w'.cell? ⟨g, 11, none⟩ = some (.string ⟨#[120]⟩) := by have h := m1; rw [hy.2.1] at h; exact h
  clear k0 k1 k2 k3 k4 m0 m1 m2 m3 m4 hx hy h1 h2
  go_wp2
  go_ret
  exact ⟨rfl, h3⟩
end Go.Proofs.Ytgpkhpheomaiaaa
