/- step of a word's reader. No condition. -/
import Derived.Test.YtgpkhpheomaiaaaRdO
namespace Go.Proofs.Ytgpkhpheomaiaaa
open Go.RowKit Go.PlainAid
attribute [local go_sem] Oper.semAt_some

theorem post_text {w w' : World} {b n₀ : Nat} {t : ByteArray} {k d : Int} {D : Nat} {O : Nat → Prop} {st : St} (h : RdPost w b n₀ t k d D O st w') : w'.cell? ⟨b, 0, none⟩ = some (.string t) := by
  obtain ⟨O', hR, _⟩ := h
  obtain ⟨a0, n0, c0, a1, c1, hB⟩ := hR.blk
  exact hB.cell 0

section
variable {w : World} {b n₀ : Nat} {t : ByteArray} {k d : Int} {st : St} {O : Nat → Prop} {rec : Rec} {i kk : Nat}
variable (h : Rd w b n₀ t k d kk st O) (ht : t.size ≤ 65536) (hi : i < t.size)
include h hi

include ht in
set_option maxHeartbeats 2000000 in
theorem step_bs (h92 : (bt t i == 92) = true) (hlen : st.ps.length ≤ 65536) (hby : st.bytes.length ≤ 65536) : Calls Try.prog 26 #[.pointer (some ⟨b, 0, none⟩), .int .i64 i] w (StepR w b n₀ t k d kk O (.ok (bsM t k i st))) := by
  have hb := get_bt t
  obtain ⟨a0, n0, c0, a1, c1, hB⟩ := h.blk
  have e0 : w.cell? ⟨b, 0, none⟩ = some (.string t) := hB.cell 0
  have hc := Lib.hid (backslash_rd h i hi ht hlen hby)
  clear h hB
  obtain ⟨⟨n, s2⟩, hr⟩ : ∃ r, bsM t k i st = r := ⟨_, rfl⟩
  rw [hr] at hc ⊢
  clear hr
  go_enter Try.func26, Try.ntmps26
  go_wp2_with (go_at_call 31; refine hc.out.mono ?_; rintro e w' ⟨rfl, hp⟩; have hpH := Lib.hid hp; clear hp)
  go_ret2
  exact .inr ⟨n, s2, rfl, rfl, hpH.out⟩

set_option maxHeartbeats 2000000 in
theorem step_tick (h92 : (bt t i == 92) = false) (h96 : (bt t i == 96) = true) : Calls Try.prog 26 #[.pointer (some ⟨b, 0, none⟩), .int .i64 i] w (StepR w b n₀ t k d kk O (.error 55)) := by
  have hb := get_bt t
  have hn := h.size
  obtain ⟨a0, n0, c0, a1, c1, hB⟩ := h.blk
  have e0 : w.cell? ⟨b, 0, none⟩ = some (.string t) := hB.cell 0
  clear h hB
  go_enter Try.func26, Try.ntmps26
  go_wp2
  go_ret2
  exact .inl ⟨55, rfl, by decide, rfl, (Below.refl _ _).mono hn⟩

/-- Which way the step goes at a quote. -/
def QuoteAt (t : ByteArray) (i : Nat) (k : Int) : Prop := ((bt t i == 39) = true ∧ (k == 0) = true) ∨ ((bt t i == 39) = false ∧ (bt t i == 34) = true ∧ (k == 0) = true)
def NoQuote (t : ByteArray) (i : Nat) (k : Int) : Prop := ((bt t i == 39) = true ∧ (k == 0) = false) ∨ ((bt t i == 39) = false ∧ (bt t i == 34) = true ∧ (k == 0) = false) ∨ ((bt t i == 39) = false ∧ (bt t i == 34) = false)

set_option maxHeartbeats 4000000 in
theorem step_quote (h92 : (bt t i == 92) = false) (h96 : (bt t i == 96) = false) (hq : QuoteAt t i k) (res : Except Nat (Nat × St))
    (hc : Hid (Calls Try.prog 32 #[.pointer (some ⟨b, 0, none⟩), .int .i64 i] w (StepR w b n₀ t k d kk O res))) :
    Calls Try.prog 26 #[.pointer (some ⟨b, 0, none⟩), .int .i64 i] w (StepR w b n₀ t k d kk O res) := by
  have hb := get_bt t
  obtain ⟨a0, n0, c0, a1, c1, hB⟩ := h.blk
  have e0 : w.cell? ⟨b, 0, none⟩ = some (.string t) := hB.cell 0
  have e1 : w.cell? ⟨b, 1, none⟩ = some (.int .i64 k) := hB.cell 1
  clear h hB
  cases res with
  | error er =>
    rcases hq with ⟨h1, h2⟩ | ⟨h1, h2, h3⟩
    all_goals
      go_enter Try.func26, Try.ntmps26
      go_wp2_with (go_at_call 32; refine (step_bad hc.out).mono ?_; rintro e w' ⟨rfl, hp⟩; have hpH := Lib.hid hp; clear hp)
      go_ret2
      exact .inl ⟨er, rfl, hpH.out.1, rfl, hpH.out.2⟩
  | ok r =>
    obtain ⟨nx, st'⟩ := r
    rcases hq with ⟨h1, h2⟩ | ⟨h1, h2, h3⟩
    all_goals
      go_enter Try.func26, Try.ntmps26
      go_wp2_with (go_at_call 32; refine (step_good hc.out).mono ?_; rintro e w' ⟨rfl, hp⟩; have hpH := Lib.hid hp; clear hp)
      go_ret2
      exact .inr ⟨nx, st', rfl, rfl, hpH.out⟩

set_option maxHeartbeats 4000000 in
theorem step_dollar (h92 : (bt t i == 92) = false) (h96 : (bt t i == 96) = false) (h39 : (bt t i == 39) = false) (h34 : (bt t i == 34) = false) (h36 : (bt t i == 36) = true) (res : Except Nat (Nat × St))
    (hc : Hid (Calls Try.prog 33 #[.pointer (some ⟨b, 0, none⟩), .int .i64 i] w (StepR w b n₀ t k d kk O res))) :
    Calls Try.prog 26 #[.pointer (some ⟨b, 0, none⟩), .int .i64 i] w (StepR w b n₀ t k d kk O res) := by
  have hb := get_bt t
  obtain ⟨a0, n0, c0, a1, c1, hB⟩ := h.blk
  have e0 : w.cell? ⟨b, 0, none⟩ = some (.string t) := hB.cell 0
  have e1 : w.cell? ⟨b, 1, none⟩ = some (.int .i64 k) := hB.cell 1
  clear h hB
  cases res with
  | error er =>
    go_enter Try.func26, Try.ntmps26
    go_wp2_with (go_at_call 33; refine (step_bad hc.out).mono ?_; rintro e w' ⟨rfl, hp⟩; have hpH := Lib.hid hp; clear hp)
    go_ret2
    exact .inl ⟨er, rfl, hpH.out.1, rfl, hpH.out.2⟩
  | ok r =>
    obtain ⟨nx, st'⟩ := r
    go_enter Try.func26, Try.ntmps26
    go_wp2_with (go_at_call 33; refine (step_good hc.out).mono ?_; rintro e w' ⟨rfl, hp⟩; have hpH := Lib.hid hp; clear hp)
    go_ret2
    exact .inr ⟨nx, st', rfl, rfl, hpH.out⟩

/-- The ways on which a byte is taken as it is. -/
def Plain (t : ByteArray) (i : Nat) (k : Int) : Prop :=
  ((bt t i == 39) = true ∧ (bt t i == 34) = false ∧ (k == 0) = false ∧ (bt t i == 36) = false ∧ (bt t i == 126) = false) ∨
  ((bt t i == 39) = false ∧ (bt t i == 34) = true ∧ (k == 0) = false ∧ (bt t i == 36) = false ∧ (bt t i == 126) = false) ∨
  ((bt t i == 39) = false ∧ (bt t i == 34) = false ∧ (bt t i == 36) = false ∧ (bt t i == 126) = false) ∨
  ((bt t i == 39) = false ∧ (bt t i == 34) = false ∧ (bt t i == 36) = false ∧ (bt t i == 126) = true ∧ ((i : Int) == 0) = false) ∨
  ((bt t i == 39) = false ∧ (bt t i == 34) = false ∧ (bt t i == 36) = false ∧ (bt t i == 126) = true ∧ ((i : Int) == 0) = true ∧ (k == 0) = false) ∨
  ((bt t i == 39) = false ∧ (bt t i == 34) = false ∧ (bt t i == 36) = false ∧ (bt t i == 126) = true ∧ ((i : Int) == 0) = true ∧ (k == 0) = true ∧ ((t.size : Int) == 1) = false ∧ (bt t 1 == 47) = false ∧ 1 < t.size)
def Tilde (t : ByteArray) (i : Nat) (k : Int) : Prop := (bt t i == 39) = false ∧ (bt t i == 34) = false ∧ (bt t i == 36) = false ∧ (bt t i == 126) = true ∧ ((i : Int) == 0) = true ∧ (k == 0) = true ∧ (((t.size : Int) == 1) = true ∨ (((t.size : Int) == 1) = false ∧ (bt t 1 == 47) = true ∧ 1 < t.size))

include ht in
set_option maxRecDepth 100000 in
set_option maxHeartbeats 8000000 in
theorem step_take (h92 : (bt t i == 92) = false) (h96 : (bt t i == 96) = false) (hp : Plain t i k) (hlen : st.ps.length ≤ 65536) (hby : st.bytes.length ≤ 65536) :
    Calls Try.prog 26 #[.pointer (some ⟨b, 0, none⟩), .int .i64 i] w (StepR w b n₀ t k d kk O (.ok (i + 1, st.take (t.extract i (i + 1)) (k != 0)))) := by
  have hb := get_bt t
  obtain ⟨a0, n0, c0, a1, c1, hB⟩ := h.blk
  have e0 : w.cell? ⟨b, 0, none⟩ = some (.string t) := hB.cell 0
  have e0d : w.drew.cell? ⟨b, 0, none⟩ = some (.string t) := hB.cell 0
  have e1 : w.cell? ⟨b, 1, none⟩ = some (.int .i64 k) := hB.cell 1
  obtain ⟨qv, hqv⟩ : ∃ v, (k != 0) = v := ⟨_, rfl⟩
  have hqH := Lib.hid hqv
  have hH := Lib.hid h
  have hxz : (t.extract i (i + 1)).size ≤ 1 := by rw [ext_size]; omega
  have hxzH := Lib.hid hxz
  have hwr : IntKind.i64.wrap ((i : Int) + 1) = (i : Int) + 1 := IntWalk.i64_in _ (by omega)
  have hN : ((i : Int) + 1).toNat = i + 1 := by omega
  have h0 : 0 ≤ (i : Int) + 1 := by omega
  have h1 : (i : Int) + 1 ≤ (t.size : Int) := by omega
  have h2 : (i : Int) ≤ (i : Int) + 1 := by omega
  have h3 : (0 : Int) ≤ (i : Int) := by omega
  rw [hqv]
  clear h hB hqv hxz
  rcases hp with ⟨p1, p2, p3, p4, p5⟩ | ⟨p1, p2, p3, p4, p5⟩ | ⟨p1, p2, p3, p4⟩ | ⟨p1, p2, p3, p4, p5⟩ | ⟨p1, p2, p3, p4, p5, p6⟩ | ⟨p1, p2, p3, p4, p5, p6, p7, p8, p9⟩
  all_goals
    go_enter Try.func26, Try.ntmps26
    go_wp2_with fail
    go_region_held3 (fun w' => w'.cell? ⟨b, 0, none⟩ = some (.string t)) (first | with_reducible exact e0d | with_reducible assumption | exact z0 | fail)
      ((first
        | (go_at_call 36; refine (quoted_rd hH.out.drew _ hqH.out).mono ?_; rintro e w2 ⟨rfl, rfl⟩)
        | (go_at_call 35; refine (take_rd hH.out.drew (t.extract i (i + 1)) qv (by omega) (by have := hxzH.out; omega)).mono ?_; rintro e w2 ⟨rfl, hp2⟩; have z0 := post_text hp2)
        | fail))
    have hp3 := Lib.hid hp2
    clear hp2
    go_wp2
    go_ret2
    exact .inr ⟨i + 1, _, rfl, by simp, RdPost.trans (fun _ h => .inl h) (frm_drew _ _) hp3.out⟩

include ht in
set_option maxHeartbeats 8000000 in
theorem step_tilde (h92 : (bt t i == 92) = false) (h96 : (bt t i == 96) = false) (hp : Tilde t i k) (hlen : st.ps.length ≤ 65536) :
    Calls Try.prog 26 #[.pointer (some ⟨b, 0, none⟩), .int .i64 i] w (StepR w b n₀ t k d kk O (.ok (i + 1, st.part (.mk 5 ⟨#[126]⟩ ⟨#[]⟩ [] false)))) := by
  have hb := get_bt t
  obtain ⟨a0, n0, c0, a1, c1, hB⟩ := h.blk
  have e0 : w.cell? ⟨b, 0, none⟩ = some (.string t) := hB.cell 0
  have e1 : w.cell? ⟨b, 1, none⟩ = some (.int .i64 k) := hB.cell 1
  have hc := Lib.hid (part_rd (x := ⟨5, ⟨#[126]⟩, ⟨#[]⟩, none, 0, 0, false⟩) (p := .mk 5 ⟨#[126]⟩ ⟨#[]⟩ [] false) (T2 := fun _ => False) h (by omega) ⟨rfl, rfl, rfl, rfl, WAt_nil _ _ _⟩ (fun g hg => hg.elim))
  clear h hB
  obtain ⟨p1, p2, p3, p4, p5, p6, p7 | ⟨p7, p8, p9⟩⟩ := hp
  all_goals
    go_enter Try.func26, Try.ntmps26
    go_wp2_with (go_at_call 34; refine hc.out.mono ?_; rintro e w' ⟨rfl, hp⟩; have hpH := Lib.hid hp; clear hp)
    go_ret2
    exact .inr ⟨i + 1, _, rfl, by simp, hpH.out⟩
end

theorem step_rd {w : World} {b n₀ : Nat} {t : ByteArray} {k d : Int} {st : St} {O : Nat → Prop} {rec : Rec} {i kk : Nat} (h : Rd w b n₀ t k d kk st O) (ht : t.size ≤ 65536) (hi : i < t.size) (hk : k = 0 ∨ k = 1 ∨ k = 2) (hd : d + kk = 24) (hd0 : 0 ≤ d)
    (hok : st.ok) (hm1 : st.m1 ≤ i) (hm2 : st.m2 ≤ i) (hrec : 1 ≤ kk → Nest rec kk d) (hro : RecOk rec) :
    Calls Try.prog 26 #[.pointer (some ⟨b, 0, none⟩), .int .i64 i] w (StepR w b n₀ t k d kk O (stepM rec t k kk i st)) := by
  have hmg := m1_ge st
  have hbg := m2_ge hok
  have hlen : st.ps.length ≤ 65536 := by omega
  have hby : st.bytes.length ≤ 65536 := by omega
  have ff : ∀ {x y : Int}, x ≠ y → (x == y) = false := fun h => beq_eq_false_iff_ne.2 h
  have tt : ∀ {x y : Int}, x = y → (x == y) = true := fun h => by rw [h]; exact beq_self_eq_true _
  unfold stepM
  by_cases h92 : bt t i = 92
  · rw [if_pos h92]; exact step_bs h ht hi (tt h92) hlen hby
  · rw [if_neg h92]
    by_cases h96 : bt t i = 96
    · rw [if_pos h96]; exact step_tick h hi (ff h92) (tt h96)
    · rw [if_neg h96]
      by_cases hq : (bt t i = 39 ∨ bt t i = 34) ∧ k = 0
      · rw [if_pos hq]
        refine step_quote h hi (ff h92) (ff h96) ?_ _ (Lib.hid (quotes_rd h ht hd hd0 hi hq.1 hq.2 hok hm1 hm2 hrec hro))
        rcases hq.1 with e | e
        · exact .inl ⟨tt e, tt hq.2⟩
        · exact .inr ⟨ff (by omega), tt e, tt hq.2⟩
      · rw [if_neg hq]
        by_cases h36 : bt t i = 36
        · rw [if_pos h36]
          exact step_dollar h hi (ff h92) (ff h96) (ff (by omega)) (ff (by omega)) (tt h36) _ (Lib.hid (dollar_rd h i hi h36 ht hk hd hd0 hlen hby hrec))
        · rw [if_neg h36]
          by_cases htl : bt t i = 126 ∧ i = 0 ∧ k = 0 ∧ (t.size = 1 ∨ bt t 1 = 47)
          · rw [if_pos htl]
            refine step_tilde h ht hi (ff h92) (ff h96) ⟨ff (by omega), ff (by omega), ff h36, tt htl.1, tt (by omega), tt htl.2.2.1, ?_⟩ hlen
            by_cases h1 : t.size = 1
            · exact .inl (tt (by omega))
            · exact .inr ⟨ff (by omega), tt (htl.2.2.2.resolve_left h1), by omega⟩
          · rw [if_neg htl]
            refine step_take h ht hi (ff h92) (ff h96) ?_ hlen hby
            by_cases hk0 : k = 0
            · have h39 : bt t i ≠ 39 := fun e => hq ⟨.inl e, hk0⟩
              have h34 : bt t i ≠ 34 := fun e => hq ⟨.inr e, hk0⟩
              by_cases h126 : bt t i = 126
              · by_cases h0 : i = 0
                · refine .inr (.inr (.inr (.inr (.inr ⟨ff h39, ff h34, ff h36, tt h126, tt (by omega), tt hk0, ff (fun e => htl ⟨h126, h0, hk0, .inl (by omega)⟩), ff (fun e => htl ⟨h126, h0, hk0, .inr e⟩), ?_⟩))))
                  have : ¬ t.size = 1 := fun e => htl ⟨h126, h0, hk0, .inl e⟩
                  omega
                · exact .inr (.inr (.inr (.inl ⟨ff h39, ff h34, ff h36, tt h126, ff (by omega)⟩)))
              · exact .inr (.inr (.inl ⟨ff h39, ff h34, ff h36, ff h126⟩))
            · by_cases h39 : bt t i = 39
              · exact .inl ⟨tt h39, ff (by omega), ff hk0, ff h36, ff (by omega)⟩
              · by_cases h34 : bt t i = 34
                · exact .inr (.inl ⟨ff h39, tt h34, ff hk0, ff h36, ff (by omega)⟩)
                · by_cases h126 : bt t i = 126
                  · by_cases h0 : i = 0
                    · exact .inr (.inr (.inr (.inr (.inl ⟨ff h39, ff h34, ff h36, tt h126, tt (by omega), ff hk0⟩))))
                    · exact .inr (.inr (.inr (.inl ⟨ff h39, ff h34, ff h36, tt h126, ff (by omega)⟩)))
                  · exact .inr (.inr (.inl ⟨ff h39, ff h34, ff h36, ff h126⟩))
end Go.Proofs.Ytgpkhpheomaiaaa
