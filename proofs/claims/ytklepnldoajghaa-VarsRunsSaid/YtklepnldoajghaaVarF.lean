/- Mark: a variable takes marks. Condition: the variables lie as stated. -/
import Derived.Test.YtklepnldoajghaaVarE
namespace Go.Proofs.Ytklepnldoajghaa
open Go.RowKit Go.PlainAid
attribute [local go_sem] Oper.semAt_some

def markE (L : Vl) (x : ByteArray) (e r : Bool) : Int :=
  if isName x = false then 22 else if e = false ∧ r = false then 0 else if has (ks L) x = false ∧ 64 ≤ L.length then 64 else 0
def markR (L : Vl) (x : ByteArray) (e r : Bool) : Vl :=
  if isName x = false then L else if e = false ∧ r = false then L else if has (ks L) x = false ∧ 64 ≤ L.length then L else
    setL L x ⟨(got L x).val, (got L x).st, (got L x).ex || e, (got L x).ro || r⟩

set_option maxHeartbeats 1000000 in
theorem markNil_any (x : ByteArray) (e r : Bool) (w : World) : Calls Try.prog 14 #[.pointer none, .string x, .bool e, .bool r] w fun e w' => e = .returned (.int .i64 22) ∧ w' = w := by
  go_enter Try.func14, Try.ntmps14
  go_wp2_with fail
  go_ret
  exact ⟨rfl, rfl⟩

set_option maxHeartbeats 8000000 in
theorem Mark_any {n₀ p : Nat} {L : Vl} {A : List ByteArray} {kv vv av : Value} (x : ByteArray) (ma mb : Bool) (w : World) (h : VarsAt n₀ w p L A kv vv av) (hn0 : n₀ ≤ w.heap.size) (hx : x.size ≤ maxLen) :
    Calls Try.prog 14 #[.pointer (some ⟨p, 0, none⟩), .string x, .bool ma, .bool mb] w fun e w' => e = .returned (.int .i64 (markE L x ma mb)) ∧ Ends n₀ p (markR L x ma mb) A kv vv av w w' := by
  have hH := Lib.hid h
  have hn0H := Lib.hid hn0
  cases hnm : isName x with
  | false =>
    have hE : Hid (markE L x ma mb = 22) := Lib.hid (by unfold markE; rw [if_pos hnm])
    have hR : Hid (markR L x ma mb = L) := Lib.hid (by unfold markR; rw [if_pos hnm])
    have hnmH := Lib.hid hnm
    clear h hn0 hnm
    go_enter Try.func14, Try.ntmps14
    go_wp2_with (go_at_call 29; refine (name_any x _ hx).mono ?_; rintro e w' ⟨rfl, rfl⟩; rw [hnmH.out])
    go_ret
    exact ⟨by rw [hE.out]; rfl, by rw [hR.out]; exact .same hH.out (Below.refl _ _)⟩
  | true =>
    have hnmH := Lib.hid hnm
    by_cases hno : ma = false ∧ mb = false
    · have hE : Hid (markE L x ma mb = 0) := Lib.hid (by unfold markE; rw [if_neg (by rw [hnm]; simp), if_pos hno])
      have hR : Hid (markR L x ma mb = L) := Lib.hid (by unfold markR; rw [if_neg (by rw [hnm]; simp), if_pos hno])
      obtain ⟨rfl, rfl⟩ := hno
      clear h hn0 hnm
      go_enter Try.func14, Try.ntmps14
      go_wp2_with (go_at_call 29; refine (name_any x _ hx).mono ?_; rintro e w' ⟨rfl, rfl⟩; rw [hnmH.out])
      go_ret
      exact ⟨by rw [hE.out]; rfl, by rw [hR.out]; exact .same hH.out (Below.refl _ _)⟩
    · have hE0 : markE L x ma mb = if has (ks L) x = false ∧ 64 ≤ L.length then 64 else 0 := by unfold markE; rw [if_neg (by rw [hnm]; simp), if_neg hno]
      have hR0 : markR L x ma mb = if has (ks L) x = false ∧ 64 ≤ L.length then L else setL L x ⟨(got L x).val, (got L x).st, (got L x).ex || ma, (got L x).ro || mb⟩ := by unfold markR; rw [if_neg (by rw [hnm]; simp), if_neg hno]
      obtain ⟨⟨yv, ys, ye, yr⟩, hy⟩ : ∃ y, got L x = y := ⟨_, rfl⟩
      have hyH := Lib.hid hy
      rw [hy] at hR0
      by_cases hfull : has (ks L) x = false ∧ 64 ≤ L.length
      · rw [if_pos hfull] at hE0 hR0
        have hE := Lib.hid hE0
        have hR := Lib.hid hR0
        obtain ⟨hh, hlen⟩ := hfull
        have hhH := Lib.hid hh
        have hlenH := Lib.hid hlen
        clear h hn0 hnm hy hh hlen hE0 hR0
        cases ma <;> cases mb
        · exact absurd ⟨rfl, rfl⟩ hno
        all_goals
          clear hno
          go_enter Try.func14, Try.ntmps14
          go_wp2_with (go_at_call 29; refine (name_any x _ hx).mono ?_; rintro e w' ⟨rfl, rfl⟩; rw [hnmH.out])
          refine (get_any x w hH.out.ord).mono ?_
          rintro e W ⟨rfl, hB⟩
          rw [hyH.out, hhH.out]
          unfold vcs
          have hBH := Lib.hid hB
          have hVW := Lib.hid (hH.out.beneath hB)
          clear hB
          go_wp2_with (go_at_call 31; refine (isFull_any _ (hVW.out.beneath ((Below.refl _ _).alloc (Nat.le_refl _) _))).mono ?_; rintro e w' ⟨rfl, rfl⟩; rw [decide_eq_true hlenH.out])
          go_ret
          exact ⟨by rw [hE.out]; rfl, by rw [hR.out]; exact .same hH.out (hBH.out.alloc hBH.out.size _)⟩
      · rw [if_neg hfull] at hE0 hR0
        have hE := Lib.hid hE0
        have hR := Lib.hid hR0
        obtain ⟨z, hz⟩ : ∃ z, has (ks L) x = z := ⟨_, rfl⟩
        have hroom : has (ks L) x = false → L.length < 64 := fun e => by
          have : ¬ 64 ≤ L.length := fun g => hfull ⟨e, g⟩
          omega
        have hroomH := Lib.hid hroom
        have hzH := Lib.hid hz
        have hd : Hid (z = false → decide (64 ≤ L.length) = false) := Lib.hid (fun e => decide_eq_false (by have := hroom (hz.trans e); omega))
        clear h hn0 hnm hy hfull hroom hz hE0 hR0
        cases ma <;> cases mb
        · exact absurd ⟨rfl, rfl⟩ hno
        all_goals
          cases z <;> cases ye <;> cases yr
        all_goals
          clear hno
          go_enter Try.func14, Try.ntmps14
          go_wp2_with (go_at_call 29; refine (name_any x _ hx).mono ?_; rintro e w' ⟨rfl, rfl⟩; rw [hnmH.out])
          refine (get_any x w hH.out.ord).mono ?_
          rintro e W ⟨rfl, hB⟩
          rw [hyH.out, hzH.out]
          unfold vcs
          have hBH := Lib.hid hB
          have hVW := Lib.hid (hH.out.beneath hB)
          clear hB
          have hcall : ∀ a b : Bool, _ := fun a b => set_any x ⟨yv, ys, a, b⟩ (W.alloc (Obj.cells #[Value.string yv, Value.bool ys, Value.bool a, Value.bool b] 68)).drew (hVW.out.beneath (((Below.refl _ _).alloc (Nat.le_refl _) _).drew)) (by have := hn0H.out; have := hBH.out.size; show n₀ ≤ (W.alloc _).heap.size; simp; omega) hroomH.out
          have hBW : ∀ a b : Bool, Hid (Below w.heap.size w (W.alloc (Obj.cells #[Value.string yv, Value.bool ys, Value.bool a, Value.bool b] 68)).drew) := fun a b => Lib.hid (((hBH.out.alloc hBH.out.size (Obj.cells #[Value.string yv, Value.bool ys, Value.bool a, Value.bool b] 68))).drew)
          have hcallH := Lib.hid hcall
          clear hcall
          go_wp2_with (go_at_call 31; refine (isFull_any _ (hVW.out.beneath ((Below.refl _ _).alloc (Nat.le_refl _) _))).mono ?_; rintro e w' ⟨rfl, rfl⟩; first | rw [hd.out trivial] | rw [hd.out rfl])
          go_region_with (go_at_call 32; refine (hcallH.out _ _).mono ?_; rintro e W4 ⟨rfl, hEnd⟩; have hEndH := Lib.hid hEnd; clear hEnd)
          all_goals
            go_wp2_with fail
            go_ret
            exact ⟨by rw [hE.out]; rfl, by rw [hR.out]; exact .pre (hBW _ _).out hEndH.out⟩

end Go.Proofs.Ytklepnldoajghaa
