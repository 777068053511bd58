/- The walk over a word's parts, with whatever yield. No condition. -/
import Derived.Test.YtgpkhpheomaiaaaWkB
import Derived.RangeFuncNested
import Derived.RangeFuncBound
import Derived.RangeFuncCalls
import Derived.RangeFuncLeaves
import Derived.RangeFuncFrom
import Derived.RangeFuncBox
import Derived.Shelf.Abstract
import Derived.Shelf.RegionOpen
import Derived.OwnWalk
import Derived.OwnWalkIn
import Derived.TacticsInMore
import Derived.LoopNIn
import Derived.LoopIn
import Derived.Sort.CutIn
import Derived.Sort.QuietIn
namespace Go.Proofs.Ytgpkhpheomaiaaa
open Go.RowKit Go.Shelf Go.PlainAid
attribute [local go_sem] Oper.semAt_some

def encP (x : Pt) : Array Value := #[.agg #[.int .i64 x.kind, .string x.text, .string x.op, .slice x.wa x.wn x.wc, .bool x.quoted]]
/-- What a round keeps: every block of cells but those in S. -/
structure KeepC (S : Nat → Prop) (W W' : World) : Prop where
  size : W.heap.size ≤ W'.heap.size
  same : ∀ g o, W.heap[g]? = some o → o.isCells = true → ¬ S g → W'.heap[g]? = some o
theorem KeepC.trans {S : Nat → Prop} {A B C : World} (h : KeepC S A B) (k : KeepC S B C) : KeepC S A C :=
  ⟨Nat.le_trans h.size k.size, fun g o h1 h2 h3 => k.same g o (h.same g o h1 h2 h3) h2 h3⟩
theorem KeepC.refl (S : Nat → Prop) (W : World) : KeepC S W W := ⟨Nat.le_refl _, fun _ _ h _ _ => h⟩
theorem keepC_put {S : Nat → Prop} (W : World) (l : Nat) (o o' : Obj) (h : W.heap[l]? = some o) (h1 : o.isCells = false) : KeepC S W (W.putObj l o') :=
  ⟨by simp [World.putObj], fun g o2 hg hc _ => by
    by_cases e : g = l
    · subst e
      rw [h] at hg
      cases hg
      rw [h1] at hc
      cases hc
    · exact (World.putObj_heap_other (by omega)).trans hg⟩
theorem KeepC.blk {S : Nat → Prop} {W W' : World} (h : KeepC S W W') {g : Nat} {t : TypeId} {cs : Array Value} (hb : Blk W g t cs) (hg : ¬ S g) : Blk W' g t cs := h.same g _ hb rfl hg
theorem KeepC.heap {S : Nat → Prop} {W W' : World} (h : KeepC S W W') {g : Nat} {o : Obj} (hb : W.heap[g]? = some o) (hc : o.isCells = true) (hg : ¬ S g) : W'.heap[g]? = W.heap[g]? := (h.same g _ hb hc hg).trans hb.symm
theorem keepC_of {S : Nat → Prop} {W W' : World} (h : Below W.heap.size W W') : KeepC S W W' :=
  ⟨h.size, fun g _ hg _ _ => (h.block g (Array.getElem?_eq_some_iff.1 hg).1).trans hg⟩
theorem row_keepC {W W' : World} {base size n : Nat} {e : TypeId} {v : Value} {xs : List Value} {S : Nat → Prop} (h : W.ownsRow base e size v n xs) (k : KeepC S W W') (hS : ∀ g, v.ownBlock = some g → ¬ S g) : W'.ownsRow base e size v n xs := by
  refine row_keep h (fun g hg => ?_)
  rcases h.2 with ⟨rfl, _⟩ | ⟨g1, cap, cur, rfl, _, hb, _⟩
  · simp [Value.ownBlock] at hg
  · obtain rfl : g1 = g := by simpa [Value.ownBlock] using hg
    exact k.heap hb rfl (hS _ rfl)
theorem WAt_keepC {w w' : World} {T S : Nat → Prop} (k : KeepC S w w') (hT : ∀ g, T g → ¬ S g) : ∀ (D : Nat) (v : Value) (l : List PT), WAt w T D v l → WAt w' T D v l
  | 0, _, _, h => h
  | D + 1, v, l, ⟨pts, ⟨base, hr⟩, ho, hl, hi⟩ => ⟨pts, ⟨base, row_keepC hr k (fun g hg => hT g (ho g hg))⟩, ho, hl, fun i x p hx hp => by
      obtain ⟨h1, h2, h3, h4, h5⟩ := hi i x p hx hp
      exact ⟨h1, h2, h3, h4, WAt_keepC k hT D _ _ h5⟩⟩
theorem yield_wide {m m' l : Nat} {P : Program} {args : Array Value} {W : World} {R : Ending → World → Prop} (h : YieldAt Fence.wide m P l args W R) : YieldAt Fence.wide m' P l args W R := by
  obtain ⟨fn, tmps, assign, body, h1, h2, h3⟩ := h
  exact ⟨fn, tmps, assign, body, h1, h2, fun c cs _ => h3 c cs (room_wide _)⟩
/-- What walk answers, and what is so then. -/
def WalkP (J Jx : List Pt → World → Prop) (S : Nat → Prop) (ll : List PT) (pre0 : List Pt) (W : World) (e : Ending) (W' : World) : Prop :=
  (e = .returned (.bool true) ∧ ∃ xs, Mat xs (flatL ll) ∧ J (pre0 ++ xs) W' ∧ KeepC S W W') ∨ (e = .returned (.bool false) ∧ ∃ xs, (∃ ps, ps <+: flatL ll ∧ Mat xs ps) ∧ Jx (pre0 ++ xs) W')
theorem mat_len {a : List Pt} {b : List PT} (h : Mat a b) : a.length = b.length := h.1
theorem flat_pre {l : List PT} {i : Nat} {p : PT} {ps : List PT} (h : l[i]? = some p) (hp : ps <+: flatL p.word) : flatL (l.take i) ++ [p] ++ ps <+: flatL l := by
  obtain ⟨t, ht⟩ := hp
  refine ⟨t ++ flatL (l.drop (i + 1)), ?_⟩
  conv => rhs; rw [← List.take_append_drop (i + 1) l, flatL_app, flat_take h, ← ht]
  simp

section
variable (l n₀ N : Nat) (S : Nat → Prop) (J Jx : List Pt → World → Prop)
  (hY : ∀ pre x W, J pre W → pre.length < N → YieldAt Fence.wide 0 Try.prog l (encP x) W fun e W' => (e = .returned (.bool true) ∧ J (pre ++ [x]) W' ∧ KeepC S W W') ∨ (e = .returned (.bool false) ∧ Jx (pre ++ [x]) W'))
  (hJb : ∀ p (W W' : World), J p W → Below W.heap.size W W' → J p W') (hS : ∀ g, S g → g < n₀)
include hY hJb hS
set_option maxRecDepth 100000 in
set_option maxHeartbeats 3000000 in
theorem walk_in : ∀ (D d : Nat), 1 ≤ d → ∀ (a : Option Addr) (n c : Nat) (ll : List PT) (T : Nat → Prop) (W : World) (pre0 : List Pt), WAt W T D (.slice a n c) ll → (∀ g, T g → g < W.heap.size ∧ ¬ S g) → n₀ ≤ W.heap.size → pre0.length + cntL ll ≤ N → cntL ll ≤ 40000 → J pre0 W →
    CallsIn Fence.wide d Try.prog 18 #[.slice a n c, .func (.yield l) #[] #[]] W (WalkP J Jx S ll pre0 W) := by
  intro D
  induction D with
  | zero =>
    intro d hd a n c ll T W pre0 hW hT hn0 hN hc h0
    obtain ⟨h1, rfl⟩ := hW
    obtain ⟨rfl, rfl, rfl⟩ : a = none ∧ n = 0 ∧ c = 0 := by simpa using h1
    have h0H := Lib.hid h0
    clear h1 hc hT hn0 hN h0 hY hJb hS
    refine callsIn_of_wp Try.func18 rfl trivial ?_ rfl
    simp only [Try.ntmps18, List.size_toArray, List.length_cons, List.length_nil, Nat.reduceAdd, Nat.reduceSub, Array.replicate_succ, Array.replicate_zero, List.push_toArray, List.append_toArray, List.nil_append, List.cons_append]
    gi_wp2
    gi_loopw [9] (fun s9 wr => s9 = .int .i64 0 ∧ wr = W) (fun _ _ => 0)
    case atStart => exact ⟨rfl, rfl⟩
    case round =>
      obtain ⟨rfl, rfl⟩ := hrel
      gi_wp2
      go_ret
      exact .inl ⟨rfl, [], by rw [flatL]; exact mat_nil, by rw [List.append_nil]; exact h0H.out, KeepC.refl _ _⟩
  | succ D ih =>
    intro d hd a n c ll T W pre0 hW hT hn0 hN hc h0
    have hn := wat_len hW
    subst hn
    have hWH := Lib.hid hW
    have hTH := Lib.hid hT
    have hihH := Lib.hid (ih 1 (Nat.le_refl _))
    have hcH := Lib.hid hc
    have hNH := Lib.hid hN
    have h0H := Lib.hid h0
    have hYH := Lib.hid hY
    have hSH := Lib.hid hS
    have hJbH := Lib.hid hJb
    clear hW hT hc ih hN h0 hY hS hJb
    refine callsIn_of_wp Try.func18 rfl trivial ?_ rfl
    simp only [Try.ntmps18, List.size_toArray, List.length_cons, List.length_nil, Nat.reduceAdd, Nat.reduceSub, Array.replicate_succ, Array.replicate_zero, List.push_toArray, List.append_toArray, List.nil_append, List.cons_append]
    gi_wp2
    gi_loopw [9] (fun s9 wr => ∃ (i : Nat) (xs : List Pt), i ≤ ll.length ∧ s9 = .int .i64 i ∧ W.heap.size ≤ wr.heap.size ∧ Hid (Mat xs (flatL (ll.take i))) ∧ Hid (J (pre0 ++ xs) wr) ∧ Hid (KeepC S W wr)) (fun s9 _ => ll.length - (intOf s9).toNat)
    case atStart => exact ⟨0, [], Nat.zero_le _, by go_num, Nat.le_refl _, Lib.hid (by rw [List.take_zero, flatL]; exact mat_nil), Lib.hid (by rw [List.append_nil]; exact h0H.out), Lib.hid (KeepC.refl _ _)⟩
    case round =>
      obtain ⟨i, xs, hi, rfl, hsz, hM, hJ, hK⟩ := hrel
      by_cases hlt : i < ll.length
      · have hWr := WAt_keepC hK.out (fun g hg => (hTH.out g hg).2) _ _ _ hWH.out
        obtain ⟨g, x, p, rfl, hTg, hp, hx, c0, c1, c2, c3, c4⟩ := part_at hWr hlt
        have hcw := cnt_word hp
        have hxl : xs.length = cntL (ll.take i) := by rw [hM.out.1, flatL_len]
        have hcc := hcH.out
        have hNN := hNH.out
        have hlen : (pre0 ++ xs).length < N := by rw [List.length_append]; omega
        have hk9 : cntL p.word ≤ 40000 := by omega
        have hi9 : i ≤ 40000 := by have := len_cnt ll; omega
        have hN9 : (pre0 ++ xs ++ [x]).length + cntL p.word ≤ N := by simp only [List.length_append, List.length_cons, List.length_nil]; omega
        have hxS : Hid (SameP x p) := Lib.hid ⟨hx.1, hx.2.1, hx.2.2.1, hx.2.2.2.1⟩
        have hxW := Lib.hid hx.2.2.2.2
        have hpH := Lib.hid hp
        have hltH := Lib.hid hlt
        have hN9H := Lib.hid hN9
        clear hx hp hcw hxl hcc hWr hNN hN9
        obtain ⟨xk, xt, xo, wa, wn, wc, xq⟩ := x
        dsimp only at c0 c1 c2 c3 c4 hxW
        gi_upto_region 4 with fail
        have hb8 : Below wr.heap.size wr (wr.alloc (.cells #[.int .i64 xk, .string xt, .string xo, .slice wa wn wc, .bool xq] 35)) := (Below.refl _ _).alloc (Nat.le_refl _) _
        have hT8 := Blk.new wr 35 #[.int .i64 xk, .string xt, .string xo, .slice wa wn wc, .bool xq]
        obtain ⟨W8, hW8⟩ : ∃ W8, wr.alloc (.cells #[.int .i64 xk, .string xt, .string xo, .slice wa wn wc, .bool xq] 35) = W8 := ⟨_, rfl⟩
        rw [hW8] at hb8 hT8 ⊢
        obtain ⟨q, hq⟩ : ∃ q, wr.heap.size = q := ⟨_, rfl⟩
        rw [hq] at hT8 ⊢
        have t0 : W8.cell? ⟨q, 0, none⟩ = some (.int .i64 xk) := hT8.cell 0
        have t1 : W8.cell? ⟨q, 1, none⟩ = some (.string xt) := hT8.cell 1
        have t2 : W8.cell? ⟨q, 2, none⟩ = some (.string xo) := hT8.cell 2
        have t3 : W8.cell? ⟨q, 3, none⟩ = some (.slice wa wn wc) := hT8.cell 3
        have t4 : W8.cell? ⟨q, 4, none⟩ = some (.bool xq) := hT8.cell 4
        have hK8 : Hid (KeepC S W W8) := Lib.hid (hK.out.trans (keepC_of hb8))
        have hJ8 := hJbH.out _ _ _ hJ.out hb8
        have hTq := Lib.hid hT8
        have hqS : Hid (¬ S q) := Lib.hid (fun h => by have := hSH.out q h; omega)
        have hK8r : Hid (KeepC S wr W8) := Lib.hid (keepC_of hb8)
        obtain ⟨fn, tmps, assign, body, hy, hYR⟩ := yield_wide (m' := d - 1) (hYH.out _ ⟨xk, xt, xo, wa, wn, wc, xq⟩ W8 hJ8 hlen)
        have hYRH := Lib.hid hYR
        dsimp only [encP] at hy
        clear hJ8 hYR hW8 hb8 hT8 c0 c1 c2 c3 c4 hlen
        have hqH := Lib.hid hq
        clear hq
        gi_wp2
        refine hYRH.out.mono ?_
        rintro e W3 (⟨rfl, hJ3, hk3⟩ | ⟨rfl, hJx3⟩)
        · have hJ3H := Lib.hid hJ3
          have hK3H := Lib.hid (hK8.out.trans hk3)
          have hK3r := Lib.hid (hK8r.out.trans hk3)
          have u3 : W3.cell? ⟨q, 3, none⟩ = some (.slice wa wn wc) := (hk3.blk hTq.out hqS.out).cell 3
          have hsz3 := hK3H.out.size
          clear hJ3 hk3 hy t0 t1 t2 t3 t4
          have hcall := Lib.hid (callsIn_wide.1 (hihH.out wa wn wc p.word T W3 _ (WAt_keepC hK3r.out (fun y hy => (hTH.out y hy).2) _ _ _ hxW.out) (fun y hy => ⟨Nat.lt_of_lt_of_le (hTH.out y hy).1 hsz3, (hTH.out y hy).2⟩) (by omega) hN9H.out hk9 hJ3H.out))
          gi_wp2_with (refine ⟨trivial, ?_⟩; gi_at_call 18; refine (callsIn_wide.2 hcall.out).mono ?_; rintro e W5 (⟨rfl, ys, hMy, hJ5, hK5⟩ | ⟨rfl, ys, ⟨ps, hps, hMy⟩, hJ5⟩); (all_goals (have hJ5H := Lib.hid hJ5; have hMyH := Lib.hid hMy; clear hJ5 hMy)))
          · gi_wp2
            go_roundw
            case rel => exact ⟨i + 1, xs ++ [⟨xk, xt, xo, wa, wn, wc, xq⟩] ++ ys, by have := hltH.out; omega, by go_num, by have := hK5.size; have := hK3H.out.size; omega, Lib.hid (by rw [flat_take hpH.out]; exact mat_app (mat_app hM.out (mat_one hxS.out)) hMyH.out), Lib.hid (by have h9 := hJ5H.out; simp only [List.append_assoc] at h9 ⊢; exact h9), Lib.hid (hK3H.out.trans hK5)⟩
            case measure => have := hltH.out; simp [intOf]; omega
          · gi_wp2
            go_ret
            exact .inr ⟨rfl, xs ++ [⟨xk, xt, xo, wa, wn, wc, xq⟩] ++ ys, ⟨_, flat_pre hpH.out hps, mat_app (mat_app hM.out (mat_one hxS.out)) hMyH.out⟩, by have h9 := hJ5H.out; simp only [List.append_assoc] at h9 ⊢; exact h9⟩
        · have hJxH := Lib.hid hJx3
          clear hJx3
          gi_wp2
          refine ⟨trivial, ?_⟩
          gi_wp2
          go_ret
          exact .inr ⟨rfl, xs ++ [⟨xk, xt, xo, wa, wn, wc, xq⟩], ⟨_, (by have h9 := flat_pre hpH.out (List.nil_prefix (l := flatL p.word)); rw [List.append_nil] at h9; exact h9), mat_app hM.out (mat_one hxS.out)⟩, by have h9 := hJxH.out; simp only [List.append_assoc] at h9 ⊢; exact h9⟩
      · obtain rfl : i = ll.length := by omega
        have hM2 := hM.out
        rw [List.take_length] at hM2
        have hM2H := Lib.hid hM2
        clear hM2
        gi_wp2
        go_ret
        exact .inl ⟨rfl, xs, hM2H.out, hJ.out, hK.out⟩
end
end Go.Proofs.Ytgpkhpheomaiaaa
