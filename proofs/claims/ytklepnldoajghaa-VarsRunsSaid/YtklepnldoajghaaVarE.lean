/- Set: a variable takes a value. Condition: the variables lie as stated. -/
import Derived.Test.YtklepnldoajghaaVarD
import Derived.Test.YtklepnldoajghaaVarN
namespace Go.Proofs.Ytklepnldoajghaa
open Go.RowKit Go.PlainAid
attribute [local go_sem] Oper.semAt_some

def setE (L : Vl) (x v : ByteArray) : Int :=
  if isName x = false then 22 else if (got L x).ro = true then 63 else if 65536 < v.size then 66 else if has (ks L) x = false ∧ 64 ≤ L.length then 64 else 0
def setR (L : Vl) (x v : ByteArray) : Vl := if setE L x v = 0 then setL L x { got L x with val := v, st := true } else L

theorem Turned.refl (p : Nat) (kv vv : Value) (w : World) : Turned p kv vv w w := ⟨rfl, rfl, rfl, Nat.le_refl _, fun _ _ _ _ _ => rfl⟩
theorem Turned.of {p : Nat} {kv vv : Value} {w w' : World} (h : Below w.heap.size w w') : Turned p kv vv w w' := ⟨h.os, h.tape, h.output, h.size, fun k hk _ _ _ => h.block k hk⟩
theorem Turned.pre {p : Nat} {kv vv : Value} {a b c : World} (h : Below a.heap.size a b) (k : Turned p kv vv b c) : Turned p kv vv a c :=
  ⟨k.os.trans h.os, k.tape.trans h.tape, k.output.trans h.output, Nat.le_trans h.size k.size, fun i hi h1 h2 h3 => (k.block i (Nat.lt_of_lt_of_le hi h.size) h1 h2 h3).trans (h.block i hi)⟩

/-- How a call that may turn the variables ends. -/
def Ends (n₀ p : Nat) (L' : Vl) (A : List ByteArray) (kv vv av : Value) (w w' : World) : Prop :=
  ∃ kv' vv', VarsAt n₀ w' p L' A kv' vv' av ∧ Turned p kv vv w w' ∧ (∀ g, kv'.ownBlock = some g → kv.ownBlock = some g ∨ w.heap.size ≤ g) ∧ (∀ g, vv'.ownBlock = some g → vv.ownBlock = some g ∨ w.heap.size ≤ g)
theorem Ends.same {n₀ p : Nat} {L : Vl} {A : List ByteArray} {kv vv av : Value} {w w' : World} (h : VarsAt n₀ w p L A kv vv av) (hb : Below w.heap.size w w') : Ends n₀ p L A kv vv av w w' :=
  ⟨kv, vv, h.beneath hb, .of hb, fun _ h => .inl h, fun _ h => .inl h⟩
theorem Ends.pre {n₀ p : Nat} {L' : Vl} {A : List ByteArray} {kv vv av : Value} {a b c : World} (h : Below a.heap.size a b) (k : Ends n₀ p L' A kv vv av b c) : Ends n₀ p L' A kv vv av a c := by
  obtain ⟨kv', vv', h1, h2, h3, h4⟩ := k
  refine ⟨kv', vv', h1, .pre h h2, fun g hg => ?_, fun g hg => ?_⟩
  · rcases h3 g hg with e | e
    · exact .inl e
    · exact .inr (Nat.le_trans h.size e)
  · rcases h4 g hg with e | e
    · exact .inl e
    · exact .inr (Nat.le_trans h.size e)

set_option maxHeartbeats 1000000 in
theorem setNil_any (x v : ByteArray) (w : World) : Calls Try.prog 10 #[.pointer none, .string x, .string v] w fun e w' => e = .returned (.int .i64 22) ∧ w' = w := by
  go_enter Try.func10, Try.ntmps10
  go_wp2_with fail
  go_ret
  exact ⟨rfl, rfl⟩

set_option maxHeartbeats 4000000 in
theorem Set_any {n₀ p : Nat} {L : Vl} {A : List ByteArray} {kv vv av : Value} (x v : ByteArray) (w : World) (h : VarsAt n₀ w p L A kv vv av) (hn0 : n₀ ≤ w.heap.size) (hx : x.size ≤ maxLen) :
    Calls Try.prog 10 #[.pointer (some ⟨p, 0, none⟩), .string x, .string v] w fun e w' => e = .returned (.int .i64 (setE L x v)) ∧ Ends n₀ p (setR L x v) A kv vv av w w' := by
  have hH := Lib.hid h
  have hn0H := Lib.hid hn0
  cases hnm : isName x with
  | false =>
    have hE : Hid (setE L x v = 22) := Lib.hid (by unfold setE; rw [if_pos hnm])
    have hR : Hid (setR L x v = L) := Lib.hid (by unfold setR; rw [hE.out]; rfl)
    have hnmH := Lib.hid hnm
    clear h hn0 hnm
    go_enter Try.func10, Try.ntmps10
    go_wp2_with (go_at_call 29; refine (name_any x _ hx).mono ?_; rintro e w' ⟨rfl, rfl⟩; rw [hnmH.out])
    go_ret
    exact ⟨by rw [hE.out]; rfl, by rw [hR.out]; exact .same hH.out (Below.refl _ _)⟩
  | true =>
    obtain ⟨y, hy⟩ : ∃ y, got L x = y := ⟨_, rfl⟩
    have hyH := Lib.hid hy
    have hnmH := Lib.hid hnm
    cases hro : y.ro with
    | true =>
      have hE : Hid (setE L x v = 63) := Lib.hid (by unfold setE; rw [if_neg (by rw [hnm]; simp), if_pos (by rw [hy]; exact hro)])
      have hR : Hid (setR L x v = L) := Lib.hid (by unfold setR; rw [hE.out]; rfl)
      clear h hn0 hnm hy
      go_enter Try.func10, Try.ntmps10
      go_wp2_with (go_at_call 29; refine (name_any x _ hx).mono ?_; rintro e w' ⟨rfl, rfl⟩; rw [hnmH.out])
      refine (get_any x w hH.out.ord).mono ?_
      rintro e W ⟨rfl, hB⟩
      rw [hyH.out]
      unfold vcs
      have hBH := Lib.hid hB
      clear hB
      go_wp2_with fail
      go_ret
      exact ⟨by rw [hE.out]; rfl, by rw [hR.out]; exact .same hH.out (hBH.out.alloc hBH.out.size _)⟩
    | false =>
      by_cases hsz : 65536 < v.size
      · have hE : Hid (setE L x v = 66) := Lib.hid (by unfold setE; rw [if_neg (by rw [hnm]; simp), if_neg (by rw [hy, hro]; simp), if_pos hsz])
        have hR : Hid (setR L x v = L) := Lib.hid (by unfold setR; rw [hE.out]; rfl)
        clear h hn0 hnm hy
        go_enter Try.func10, Try.ntmps10
        go_wp2_with (go_at_call 29; refine (name_any x _ hx).mono ?_; rintro e w' ⟨rfl, rfl⟩; rw [hnmH.out])
        refine (get_any x w hH.out.ord).mono ?_
        rintro e W ⟨rfl, hB⟩
        rw [hyH.out]
        unfold vcs
        have hBH := Lib.hid hB
        clear hB
        go_wp2_with fail
        go_ret
        exact ⟨by rw [hE.out]; rfl, by rw [hR.out]; exact .same hH.out (hBH.out.alloc hBH.out.size _)⟩
      · by_cases hfull : has (ks L) x = false ∧ 64 ≤ L.length
        · have hE : Hid (setE L x v = 64) := Lib.hid (by unfold setE; rw [if_neg (by rw [hnm]; simp), if_neg (by rw [hy, hro]; simp), if_neg hsz, if_pos hfull])
          have hR : Hid (setR L x v = L) := Lib.hid (by unfold setR; rw [hE.out]; rfl)
          obtain ⟨hh, hlen⟩ := hfull
          have hhH := Lib.hid hh
          have hlenH := Lib.hid hlen
          clear h hn0 hnm hy hh hlen
          go_enter Try.func10, Try.ntmps10
          go_wp2_with (go_at_call 29; refine (name_any x _ hx).mono ?_; rintro e w' ⟨rfl, rfl⟩; rw [hnmH.out])
          refine (get_any x w hH.out.ord).mono ?_
          rintro e W ⟨rfl, hB⟩
          rw [hyH.out, hhH.out]
          unfold vcs
          have hBH := Lib.hid hB
          have hVW := Lib.hid (hH.out.beneath hB)
          clear hB
          go_wp2_with (go_at_call 31; refine (isFull_any _ (hVW.out.beneath ((Below.refl _ _).alloc (Nat.le_refl _) _))).mono ?_; rintro e w' ⟨rfl, rfl⟩; rw [decide_eq_true hlenH.out])
          go_ret
          exact ⟨by rw [hE.out]; rfl, by rw [hR.out]; exact .same hH.out (hBH.out.alloc hBH.out.size _)⟩
        · have hE : Hid (setE L x v = 0) := Lib.hid (by unfold setE; rw [if_neg (by rw [hnm]; simp), if_neg (by rw [hy, hro]; simp), if_neg hsz, if_neg hfull])
          have hR : Hid (setR L x v = setL L x ⟨v, true, y.ex, false⟩) := Lib.hid (by unfold setR; rw [hE.out, hy, if_pos rfl]; show setL L x ⟨v, true, y.ex, y.ro⟩ = _; rw [hro])
          obtain ⟨z, hz⟩ : ∃ z, has (ks L) x = z := ⟨_, rfl⟩
          have hroom : has (ks L) x = false → L.length < 64 := fun e => by
            have : ¬ 64 ≤ L.length := fun g => hfull ⟨e, g⟩
            omega
          have hroomH := Lib.hid hroom
          have hzH := Lib.hid hz
          clear h hn0 hnm hy hfull hroom hz
          cases z with
          | false =>
            have hd : Hid (decide (64 ≤ L.length) = false) := Lib.hid (decide_eq_false (by have := hroomH.out hzH.out; omega))
            go_enter Try.func10, Try.ntmps10
            go_wp2_with (go_at_call 29; refine (name_any x _ hx).mono ?_; rintro e w' ⟨rfl, rfl⟩; rw [hnmH.out])
            refine (get_any x w hH.out.ord).mono ?_
            rintro e W ⟨rfl, hB⟩
            rw [hyH.out, hzH.out]
            unfold vcs
            have hBH := Lib.hid hB
            have hVW := Lib.hid (hH.out.beneath hB)
            clear hB
            go_wp2_with (go_at_call 31; refine (isFull_any _ (hVW.out.beneath ((Below.refl _ _).alloc (Nat.le_refl _) _))).mono ?_; rintro e w' ⟨rfl, rfl⟩; rw [hd.out])
            have hcall := set_any x ⟨v, true, y.ex, false⟩ (W.alloc (Obj.cells #[Value.string v, Value.bool true, Value.bool y.ex, Value.bool false] 68)).drew (hVW.out.beneath (((Below.refl _ _).alloc (Nat.le_refl _) _).drew)) (by have := hn0H.out; have := hBH.out.size; show n₀ ≤ (W.alloc _).heap.size; simp; omega) hroomH.out
            have hBW := Lib.hid (((hBH.out.alloc hBH.out.size (Obj.cells #[Value.string v, Value.bool true, Value.bool y.ex, Value.bool false] 68))).drew)
            have hcallH := Lib.hid hcall
            clear hcall
            go_region_with (go_at_call 32; refine hcallH.out.mono ?_; rintro e W4 ⟨rfl, hEnd⟩; have hEndH := Lib.hid hEnd; clear hEnd)
            all_goals
              go_wp2_with fail
              go_ret
              exact ⟨by rw [hE.out]; rfl, by rw [hR.out]; exact .pre hBW.out hEndH.out⟩
          | true =>
            go_enter Try.func10, Try.ntmps10
            go_wp2_with (go_at_call 29; refine (name_any x _ hx).mono ?_; rintro e w' ⟨rfl, rfl⟩; rw [hnmH.out])
            refine (get_any x w hH.out.ord).mono ?_
            rintro e W ⟨rfl, hB⟩
            rw [hyH.out, hzH.out]
            unfold vcs
            have hBH := Lib.hid hB
            have hVW := Lib.hid (hH.out.beneath hB)
            clear hB
            go_wp2_with fail
            have hcall := set_any x ⟨v, true, y.ex, false⟩ (W.alloc (Obj.cells #[Value.string v, Value.bool true, Value.bool y.ex, Value.bool false] 68)).drew (hVW.out.beneath (((Below.refl _ _).alloc (Nat.le_refl _) _).drew)) (by have := hn0H.out; have := hBH.out.size; show n₀ ≤ (W.alloc _).heap.size; simp; omega) hroomH.out
            have hBW := Lib.hid (((hBH.out.alloc hBH.out.size (Obj.cells #[Value.string v, Value.bool true, Value.bool y.ex, Value.bool false] 68))).drew)
            have hcallH := Lib.hid hcall
            clear hcall
            go_region_with (go_at_call 32; refine hcallH.out.mono ?_; rintro e W4 ⟨rfl, hEnd⟩; have hEndH := Lib.hid hEnd; clear hEnd)
            all_goals
              go_wp2_with fail
              go_ret
              exact ⟨by rw [hE.out]; rfl, by rw [hR.out]; exact .pre hBW.out hEndH.out⟩

end Go.Proofs.Ytklepnldoajghaa
