/- The first look (awake) of the statements of layer 14. No condition. -/
import Derived.Test.YtklepnldoajghaaVarS
namespace Go.Proofs.Ytklepnldoajghaa
open Go.RowKit Go.Shelf Go.PlainAid
attribute [local go_sem] Oper.semAt_some

theorem Ends.below {n₀ p : Nat} {L' : Vl} {A : List ByteArray} {kv vv av : Value} {w w' : World} {b : Nat} (h : Ends n₀ p L' A kv vv av w w') (hp : b ≤ p) (hb : b ≤ w.heap.size) (hk : ∀ g, kv.ownBlock = some g → b ≤ g) (hv : ∀ g, vv.ownBlock = some g → b ≤ g) :
    ∃ kv' vv', VarsAt n₀ w' p L' A kv' vv' av ∧ Below b w w' ∧ (∀ g, kv'.ownBlock = some g → b ≤ g) ∧ (∀ g, vv'.ownBlock = some g → b ≤ g) := by
  obtain ⟨kv', vv', h1, h2, h3, h4⟩ := h
  refine ⟨kv', vv', h1, ⟨h2.os, h2.tape, h2.output, h2.size, fun k hk1 => h2.block k (by omega) (by omega) (fun e => by have := hk k e.symm; omega) (fun e => by have := hv k e.symm; omega)⟩, fun g hg => ?_, fun g hg => ?_⟩
  · rcases h3 g hg with e | e
    · exact hk g e
    · omega
  · rcases h4 g hg with e | e
    · exact hv g e
    · omega

/-- How a call that may turn the variables ends, seen from what lay there before all. -/
def EndsB (n₀ p : Nat) (L' : Vl) (A : List ByteArray) (w w' : World) : Prop := ∃ kv vv av, VarsAt n₀ w' p L' A kv vv av ∧ Below n₀ w w'
theorem Ends.b {n₀ p : Nat} {L L' : Vl} {A : List ByteArray} {kv vv av : Value} {w w' : World} (h : Ends n₀ p L' A kv vv av w w') (hV : VarsAt n₀ w p L A kv vv av) (hn0 : n₀ ≤ w.heap.size) : EndsB n₀ p L' A w w' := by
  obtain ⟨kv', vv', h1, h2, _⟩ := h.below hV.base hn0 (fun g hg => (hV.keys.lt g hg).1) (fun g hg => (hV.vals.lt g hg).1)
  exact ⟨_, _, _, h1, h2⟩
theorem EndsA.b {n₀ p : Nat} {L : Vl} {A : List ByteArray} {kv vv : Value} {w w' : World} (h : EndsA n₀ p L A kv vv w w') (hp : n₀ ≤ p) (hn0 : n₀ ≤ w.heap.size) : EndsB n₀ p L A w w' := by
  obtain ⟨av', h1, h2, _⟩ := h
  exact ⟨_, _, _, h1, h2.os, h2.tape, h2.output, h2.size, fun k hk => h2.block k (by omega) (by omega) (fun e => by cases e) (fun e => by cases e)⟩

set_option maxHeartbeats 2000000 in
theorem awake_any (w : World) : Calls Try.prog 8 #[] w fun e w' => e = .returned (.bool true) ∧ Below w.heap.size w w' := by
  obtain ⟨n₀, hn₀⟩ : ∃ n₀, w.heap.size = n₀ := ⟨_, rfl⟩
  rw [hn₀]
  have hnH := Lib.hid hn₀
  clear hn₀
  go_enter Try.func8, Try.ntmps8
  go_wp2_with fail
  refine (new_any n₀ w (by have := hnH.out; omega)).mono ?_
  rintro e w1 ⟨rfl, hb1, hV1⟩
  rw [hnH.out] at hb1 hV1 ⊢
  have hb1H := Lib.hid hb1
  have hV1H := Lib.hid hV1
  have z1 : n₀ ≤ w1.heap.size := by have := hb1H.out.size; have := hnH.out; omega
  clear hb1 hV1
  go_wp2_with fail
  refine (Set_any ⟨#[97]⟩ ⟨#[49]⟩ w1 hV1H.out z1 (by decide)).mono ?_
  rintro e w2 ⟨rfl, hE2⟩
  rw [setE_1]
  rw [setR_1] at hE2
  obtain ⟨k2, v2, a2, hV2, hb2⟩ := hE2.b hV1H.out z1
  have hb2' := Lib.hid (hb1H.out.trans hb2)
  have hV2H := Lib.hid hV2
  have z2 : n₀ ≤ w2.heap.size := by have := hb2'.out.size; have := hnH.out; omega
  clear hE2 hV2 hb2
  go_wp2_with fail
  refine (Mark_any ⟨#[97]⟩ true false w2 hV2H.out z2 (by decide)).mono ?_
  rintro e w3 ⟨rfl, hE3⟩
  rw [markE_1]
  rw [markR_1] at hE3
  obtain ⟨k3, v3, a3, hV3, hb3⟩ := hE3.b hV2H.out z2
  have hb3' := Lib.hid (hb2'.out.trans hb3)
  have hV3H := Lib.hid hV3
  have z3 : n₀ ≤ w3.heap.size := by have := hb3'.out.size; have := hnH.out; omega
  clear hE3 hV3 hb3
  go_wp2_with fail
  refine (Environ_any w3 hV3H.out (fun x hx => by
    have : x = (⟨#[97]⟩, ⟨⟨#[49]⟩, true, true, false⟩) := by simpa [L2] using hx
    subst this; decide)).mono ?_
  rintro e w4 ⟨v4, rfl, hr4, hb4⟩
  rw [env_2] at hr4
  obtain ⟨g, cap, e4, _, hc4, _, hcap⟩ := row_at kcs_len hr4 (i := 0) (x := ⟨#[97, 61, 49]⟩) rfl
  subst e4
  have c4 : w4.cell? ⟨g, 0, none⟩ = some (.string ⟨#[97, 61, 49]⟩) := by simpa using hc4 0 _ rfl
  have hb4' := Lib.hid (hb3'.out.trans (hb4.mono z3))
  clear hr4 hb4 hc4
  go_wp2
  go_ret
  exact ⟨rfl, hb4'.out⟩
end Go.Proofs.Ytklepnldoajghaa
