/- A copy of variables and parameters. Condition: the variables lie as stated. -/
import Derived.Test.YtklepnldoajghaaVarP
namespace Go.Proofs.Ytklepnldoajghaa
open Go.RowKit Go.PlainAid
attribute [local go_sem] Oper.semAt_some

theorem copied {n₀ p : Nat} {L : Vl} {A : List ByteArray} {kv vv av kv' vv' av' : Value} {w w1 w2 : World} (h : VarsAt n₀ w p L A kv vv av) (hk : w1.ownsRow w.heap.size 9 1 kv' (ks L).length (flat kcs (ks L)))
    (hv : w1.ownsRow w.heap.size 68 4 vv' (vs L).length (flat vcs (vs L))) (ha : w2.ownsRow w1.heap.size 9 1 av' A.length (flat kcs A)) (hb : Below w.heap.size w w1) (hc : Below w1.heap.size w1 w2) :
    ∃ q kv0 vv0 av0, Ending.returned (.pointer (some ⟨w2.heap.size, 0, none⟩)) = .returned (.pointer (some ⟨q, 0, none⟩)) ∧ w.heap.size ≤ q ∧ VarsAt w.heap.size (w2.alloc (.cells #[kv', vv', av'] 65)) q L A kv0 vv0 av0 ∧ Below w.heap.size w (w2.alloc (.cells #[kv', vv', av'] 65)) := by
  have h1 := hb.size
  have h2 := hc.size
  have hq : w.heap.size ≤ w2.heap.size := by omega
  refine ⟨w2.heap.size, kv', vv', av', rfl, hq, ⟨Blk.new w2 65 _, hq, (row_beneath hk hc).alloc _, (row_beneath hv hc).alloc _, (row_weak ha h1).alloc _, fun g hg e => ?_, h.srt, h.len, h.alen⟩, (hb.trans (hc.mono h1)).alloc hq _⟩
  have a := row_lt hk hg
  have b := (ha.lt g e).1
  omega

set_option maxHeartbeats 2000000 in
theorem Copy_any {n₀ p : Nat} {L : Vl} {A : List ByteArray} {kv vv av : Value} (w : World) (h : VarsAt n₀ w p L A kv vv av) :
    Calls Try.prog 20 #[.pointer (some ⟨p, 0, none⟩)] w fun e w' => ∃ q kv' vv' av', e = .returned (.pointer (some ⟨q, 0, none⟩)) ∧ w.heap.size ≤ q ∧ VarsAt w.heap.size w' q L A kv' vv' av' ∧ Below w.heap.size w w' := by
  have hbd : Below w.heap.size w w.drew := (Below.refl _ _).drew
  have hcallH := Lib.hid (copy_any w.drew (h.beneath hbd).ord)
  have hcall2H := Lib.hid (fun w1 (hb : Below w.heap.size w w1) => clone_k w1 (row_beneath h.args hb) (by have := h.alen; omega))
  have hp2H := Lib.hid (fun w1 (hb : Below w.heap.size w w1) => (blk_beneath h.blk hb).cell 2)
  have hp0 : w.cell? ⟨p, 2, none⟩ = some av := h.blk.cell 2
  obtain ⟨aa, ac, eav⟩ := ownsRow_slice h.args
  have hH := Lib.hid h
  clear h hbd
  subst eav
  go_enter Try.func20, Try.ntmps20
  go_wp2_with fail
  go_region_with ((first | (go_at_call 39; refine hcallH.out.mono ?_; rintro e w1 ⟨kv', vv', rfl, hk', hv', hb'⟩; obtain ⟨ka, kc, rfl⟩ := ownsRow_slice hk'; obtain ⟨va, vc, rfl⟩ := ownsRow_slice hv'; have hbw := undrew hb'; have q1 : w1.cell? ⟨p, 2, none⟩ = some (.slice aa A.length ac) := hp2H.out w1 hbw; have hk'H := Lib.hid hk'; have hv'H := Lib.hid hv'; have hb'H := Lib.hid hbw; clear hk' hv' hb' hbw) | (go_at_call 38; refine (hcall2H.out w1 hb'H.out).mono ?_; rintro e w2 ⟨av', rfl, ha', hc'⟩; obtain ⟨a2, c2, rfl⟩ := ownsRow_slice ha'; have ha'H := Lib.hid ha'; have hc'H := Lib.hid hc'; clear ha' hc')))
  all_goals
    go_wp2_with fail
    go_ret
    exact copied hH.out hk'H.out hv'H.out ha'H.out hb'H.out hc'H.out
end Go.Proofs.Ytklepnldoajghaa
