/- set: a name takes a variable. Condition: the variables lie as stated, and there is room. -/
import Derived.Test.YtklepnldoajghaaVarB
namespace Go.Proofs.Ytklepnldoajghaa
open Go.RowKit
attribute [local go_sem] Oper.semAt_some

def setL (L : Vl) (x : ByteArray) (y : Vb) : Vl := if has (ks L) x then L.set (pos (ks L) x) (x, y) else ins L (pos (ks L) x) (x, y)

theorem ks_ins (L : Vl) (i : Nat) (x : ByteArray) (y : Vb) : ks (ins L i (x, y)) = ins (ks L) i x := by
  unfold ks ins; rw [List.map_append, List.map_cons, List.map_take, List.map_drop]
theorem vs_ins (L : Vl) (i : Nat) (x : ByteArray) (y : Vb) : vs (ins L i (x, y)) = ins (vs L) i y := by
  unfold vs ins; rw [List.map_append, List.map_cons, List.map_take, List.map_drop]
theorem set_self {α : Type} (l : List α) (i : Nat) (a : α) (h : l[i]? = some a) : l.set i a = l := by
  obtain ⟨hi, e⟩ := List.getElem?_eq_some_iff.1 h
  rw [← e, List.set_getElem_self]
theorem ks_set {L : Vl} {x : ByteArray} (y : Vb) (h : has (ks L) x = true) : ks (L.set (pos (ks L) x) (x, y)) = ks L := by
  have e := has_at h
  unfold ks at e ⊢
  rw [List.map_set]
  exact set_self _ _ _ e
theorem vs_set (L : Vl) (i : Nat) (x : ByteArray) (y : Vb) : vs (L.set i (x, y)) = (vs L).set i y := by
  unfold vs; rw [List.map_set]

theorem sorted_ins {K : List ByteArray} {x : ByteArray} (hs : Sorted K) (h : has K x = false) : Sorted (ins K (pos K x) x) := by
  have e : K.take (pos K x) ++ K.drop (pos K x) = K := List.take_append_drop _ _
  have hs' : Sorted (K.take (pos K x) ++ K.drop (pos K x)) := by rw [e]; exact hs
  obtain ⟨h1, h2, h3⟩ := List.pairwise_append.1 hs'
  have hlo : ∀ a ∈ K.take (pos K x), lt a x = true := fun a ha => by
    obtain ⟨t, ht, rfl⟩ := List.getElem_of_mem ha
    rw [List.length_take] at ht
    rw [List.getElem_take]
    exact pos_below K x t _ (by omega) (List.getElem?_eq_getElem _)
  have hhi : ∀ b ∈ K.drop (pos K x), lt x b = true := fun b hb => by
    obtain ⟨t, ht, rfl⟩ := List.getElem_of_mem hb
    rw [List.length_drop] at ht
    rw [List.getElem_drop]
    have hl : pos K x + t < K.length := by omega
    have hn : lt K[pos K x + t] x = false := pos_above K x hs _ _ (Nat.le_add_right _ _) (List.getElem?_eq_getElem hl)
    cases g : lt x K[pos K x + t] with
    | true => rfl
    | false =>
      exfalso
      have heq : K[pos K x + t] = x := lt_total hn g
      cases t with
      | zero =>
        have : has K x = true := by unfold has; rw [List.getElem?_eq_getElem (by omega)]; simpa using heq
        rw [this] at h; cases h
      | succ t =>
        have hp : lt K[pos K x] K[pos K x + (t + 1)] = true := List.pairwise_iff_getElem.1 hs _ _ (by omega) hl (by omega)
        have hq : lt K[pos K x] x = false := pos_above K x hs _ _ (Nat.le_refl _) (List.getElem?_eq_getElem (by omega))
        rw [heq, hq] at hp
        cases hp
  unfold ins
  refine List.pairwise_append.2 ⟨h1, List.pairwise_cons.2 ⟨hhi, h2⟩, fun a ha b hb => ?_⟩
  rcases List.mem_cons.1 hb with rfl | hb
  · exact hlo a ha
  · exact h3 a ha b hb

theorem row_off {W : World} {g : Nat} {t e : TypeId} {cs : Array Value} {base size n : Nat} {v : Value} {xs : List Value} (hB : Blk W g t cs) (hte : t ≠ e) (h : W.ownsRow base e size v n xs) : some g ≠ v.ownBlock := by
  rcases h.2 with ⟨rfl, _⟩ | ⟨g1, cap, cur, rfl, _, hb, _⟩
  · simp [Value.ownBlock]
  · intro e
    obtain rfl : g = g1 := by simpa [Value.ownBlock] using e
    have := hB.symm.trans hb
    simp at this
    exact hte this.2
theorem row_row {W : World} {e e' : TypeId} (hee : e ≠ e') {base size k base' size' k' : Nat} {v v' : Value} {xs xs' : List Value} (h : W.ownsRow base e size v k xs) (h' : W.ownsRow base' e' size' v' k' xs') {g : Nat} (hg : v.ownBlock = some g) : some g ≠ v'.ownBlock := by
  rcases h.2 with ⟨rfl, _⟩ | ⟨g1, cap, cur, rfl, _, hb, _⟩
  · simp [Value.ownBlock] at hg
  · obtain rfl : g1 = g := by simpa [Value.ownBlock] using hg
    exact row_off hb hee h'

/-- What may turn: the block itself and the two rows'. -/
structure Turned (p : Nat) (kv vv : Value) (w w' : World) : Prop where
  os : w'.os = w.os
  tape : w'.tape = w.tape
  output : w'.output = w.output
  size : w.heap.size ≤ w'.heap.size
  block : ∀ k, k < w.heap.size → k ≠ p → some k ≠ kv.ownBlock → some k ≠ vv.ownBlock → w'.heap[k]? = w.heap[k]?

set_option maxHeartbeats 2000000 in
theorem set_new {n₀ p : Nat} {L : Vl} {A : List ByteArray} {kv vv av : Value} (x : ByteArray) (y : Vb) (w : World) (h : VarsAt n₀ w p L A kv vv av) (hn0 : n₀ ≤ w.heap.size) (hh : has (ks L) x = false) (hroom : L.length < 64) :
    Calls Try.prog 32 #[.pointer (some ⟨p, 0, none⟩), .string x, .agg (vcs y).toArray] w fun e w' => e = .returned (.tuple #[]) ∧ ∃ kv' vv', VarsAt n₀ w' p (ins L (pos (ks L) x) (x, y)) A kv' vv' av ∧ Turned p kv vv w w' ∧
      (∀ g, kv'.ownBlock = some g → kv.ownBlock = some g ∨ w.heap.size ≤ g) ∧ (∀ g, vv'.ownBlock = some g → vv.ownBlock = some g ∨ w.heap.size ≤ g) := by
  obtain ⟨a0, n0, e0⟩ := ownsRow_slice h.keys
  have hp : p < w.heap.size := h.blk.lt
  have h0 : ∀ o, (w.alloc o).cell? ⟨p, 0, none⟩ = some (.slice a0 (ks L).length n0) := fun o => (cell_alloc o hp).trans (by rw [h.blk.cell 0, ← e0]; rfl)
  obtain ⟨m, hm⟩ : ∃ m, w.heap.size = m := ⟨_, rfl⟩
  have hnew : ∀ (q : Nat) (W : World), W = (w.alloc (.cells (vcs y).toArray 68)).drewN q → Blk W m 68 (vcs y).toArray ∧ Below m w W ∧ W.heap.size = m + 1 := fun q W e => by
    subst e
    refine ⟨?_, ?_, ?_⟩
    · rw [← hm]; exact Blk.new w 68 _
    · exact Below.drewN_ q ((Below.refl m w).alloc (by omega) _)
    · rw [← hm]; simp [World.drewN]
  unfold vcs at hnew ⊢
  have hH := Lib.hid h
  have hhH := Lib.hid hh
  have hmH := Lib.hid hm
  have hnewH := Lib.hid hnew
  have hn0H := Lib.hid hn0
  have e0H := Lib.hid e0
  clear h hh hm hnew hn0 e0
  go_enter Try.func32, Try.ntmps32
  go_wp2_with fail
  refine (search_any n₀ (ks L) x _ _ (by rw [← e0H.out]; exact hH.out.keys.alloc _) (by have := hH.out.len; rw [ks_len]; omega) hH.out.srt).mono ?_
  rintro e W ⟨rfl, q, e2⟩
  obtain ⟨i, hi⟩ : ∃ i, pos (ks L) x = i := ⟨_, rfl⟩
  rw [hhH.out, hi]
  obtain ⟨hB, hBel, hS⟩ := hnewH.out q W e2
  have hV := hH.out.beneath (w1 := W) (by rw [hmH.out]; exact hBel)
  have p0 : W.cell? ⟨p, 0, none⟩ = some (.slice a0 (ks L).length n0) := by rw [hV.blk.cell 0, ← e0H.out]; rfl
  have hBH := Lib.hid hB
  have hBelH := Lib.hid hBel
  have hVH := Lib.hid hV
  have hSH := Lib.hid hS
  have hiH := Lib.hid hi
  clear e2 hB hBel hV hS hi h0
  rw [hmH.out]
  rw [hmH.out] at hp
  go_wp2_with fail
  have hkW := hVH.out.keys
  rw [e0H.out] at hkW
  have hown0 : ∀ g, (Value.slice a0 (ks L).length n0).ownBlock = some g → g < m := fun g hg => by rw [← hmH.out]; exact row_lt hH.out.keys (by rw [e0H.out]; exact hg)
  have hWm : m < W.heap.size := by rw [hSH.out]; omega
  have hne : (Value.slice a0 (ks L).length n0).ownBlock ≠ some W.heap.size := fun e => by have := hown0 _ e; omega
  refine (insert_k n₀ (ks L) x i _ W.heap.size 9 _ (by rw [← hiH.out]; exact pos_le _ _) (hkW.alloc _) (Blk.new W 9 #[.string x]) hne (by have := hn0H.out; have := hSH.out; have := hmH.out; simp; omega) (by have := hH.out.len; rw [ks_len]; omega)).mono ?_
  rintro e W2 ⟨kg, kc, rfl, hk2, hgr, hkat⟩
  have hpW := hVH.out.blk
  have hkp := row_off hpW (by decide) hkW
  have hp2 : Blk W2 p 65 #[kv, vv, av] := (hgr.block p (by simp; omega) hkp).trans (hpW.alloc _)
  have hm2 : Blk W2 m 68 _ := (hgr.block m (by simp; omega) (fun e => by have := hown0 m e.symm; omega)).trans (hBH.out.alloc _)
  have hv2 : W2.ownsRow n₀ 68 4 vv (vs L).length (flat vcs (vs L)) := row_keep hVH.out.vals (fun g hg => by
    have hgl := row_lt hVH.out.vals hg
    exact (hgr.block g (by simp; omega) (row_row (by decide) hVH.out.vals hkW hg)).trans (Below.heap_alloc W _ g hgl))
  have ha2 : W2.ownsRow n₀ 9 1 av A.length (flat kcs A) := row_keep hVH.out.args (fun g hg => by
    have hgl := row_lt hVH.out.args hg
    exact (hgr.block g (by simp; omega) (fun e => hVH.out.apart g (by rw [e0H.out]; exact e.symm) hg)).trans (Below.heap_alloc W _ g hgl))
  have hkg2 : kv.ownBlock = some kg ∨ w.heap.size ≤ kg := by
    rcases hkat with e | e
    · exact .inl (by rw [e0H.out]; exact e)
    · exact .inr (by rw [hmH.out]; simp at e; omega)
  obtain ⟨a1, n1, e1⟩ := ownsRow_slice hv2
  have p0 : W2.cell? ⟨p, 0, none⟩ = some kv := hp2.cell 0
  have p1 : W2.cell? ⟨p, 1, none⟩ = some (.slice a1 (vs L).length n1) := by rw [hp2.cell 1, ← e1]; rfl
  have f0 : W2.frozen? ⟨p, 0, none⟩ = false := hp2.frozen 0
  have f1 : W2.frozen? ⟨p, 1, none⟩ = false := hp2.frozen 1
  obtain ⟨⟨m0, m1, m2, m3⟩, _⟩ := blk4 hm2
  have hpm : ¬ (m = p) := by omega
  have hpm' : ¬ (p = m) := by omega
  have hp2H := Lib.hid hp2
  have hm2H := Lib.hid hm2
  have hv2H := Lib.hid hv2
  have ha2H := Lib.hid ha2
  have hk2H := Lib.hid hk2
  have hgrH := Lib.hid hgr
  clear hp2 hm2 hv2 ha2 hk2 hgr hpW hkp hkW hown0 hne p0 hkat
  have p0 : W2.cell? ⟨p, 0, none⟩ = some kv := hp2H.out.cell 0
  go_wp2_with fail
  have hvl : i ≤ (vs L).length := by rw [vs_len, ← ks_len, ← hiH.out]; exact pos_le _ _
  have hl64 := hH.out.len
  obtain ⟨W3, hW3⟩ : ∃ W3, W2.setCell ⟨p, 0, none⟩ (Value.slice (some ⟨kg, 0, none⟩) ((ks L).length + 1) kc) = W3 := ⟨_, rfl⟩
  have hs3 : W3.heap.size = W2.heap.size := by rw [← hW3]; simp [World.setCell]
  have hp3 : Blk W3 p 65 #[Value.slice (some ⟨kg, 0, none⟩) ((ks L).length + 1) kc, vv, av] := by rw [← hW3]; exact hp2H.out.set_ 0 _
  have hfar : ∀ k, k ≠ p → W3.heap[k]? = W2.heap[k]? := fun k hk => by rw [← hW3]; exact Below.heap_setCell W2 _ _ k hk
  have hm3 : Blk W3 m 68 _ := (hfar m hpm).trans hm2H.out
  have hv3 : W3.ownsRow n₀ 68 4 vv (vs L).length (flat vcs (vs L)) := row_keep hv2H.out (fun g hg => hfar g (fun e => row_off hp2H.out (by decide) hv2H.out (by rw [← e]; exact hg.symm)))
  have ha3 : W3.ownsRow n₀ 9 1 av A.length (flat kcs A) := row_keep ha2H.out (fun g hg => hfar g (fun e => row_off hp2H.out (by decide) ha2H.out (by rw [← e]; exact hg.symm)))
  have hk3 : W3.ownsRow n₀ 9 1 (Value.slice (some ⟨kg, 0, none⟩) ((ks L).length + 1) kc) ((ks L).length + 1) (flat kcs (ins (ks L) i x)) := row_keep hk2H.out (fun g hg => hfar g (fun e => row_off hp2H.out (by decide) hk2H.out (by rw [← e]; exact hg.symm)))
  have hn3 : n₀ ≤ W3.heap.size := by have := hn0H.out; have := hmH.out; have := hSH.out; have := hgrH.out.size; simp at this; omega
  have hvg : (Value.slice a1 (vs L).length n1).ownBlock ≠ some W3.heap.size := fun e => by
    have := row_lt hv3 (by rw [e1]; exact e)
    omega
  rw [e1] at hv3
  obtain ⟨⟨m0, m1, m2, m3⟩, _⟩ := blk4 hm3
  have p1 : W3.cell? ⟨p, 1, none⟩ = some (.slice a1 (vs L).length n1) := by rw [hp3.cell 1, ← e1]; rfl
  have f1 : W3.frozen? ⟨p, 1, none⟩ = false := hp3.frozen 1
  have p1a : ∀ o, (W3.alloc o).cell? ⟨p, 1, none⟩ = some (.slice a1 (vs L).length n1) := fun o => by rw [(hp3.alloc o).cell 1, ← e1]; rfl
  rw [hW3]
  have hW3H := Lib.hid hW3
  have hp3H := Lib.hid hp3
  have hv3H := Lib.hid hv3
  have ha3H := Lib.hid ha3
  have hk3H := Lib.hid hk3
  clear hW3 hp3 hm3 hv3 ha3 hk3 hfar hs3 hpm hpm' p0
  have hbig : (vs L).length ≤ 100000 := by rw [vs_len]; omega
  have hcall := insert_v n₀ (vs L) y i (.slice a1 (vs L).length n1) W3.heap.size 68 (W3.alloc (Obj.cells #[Value.string y.val, Value.bool y.st, Value.bool y.ex, Value.bool y.ro] 68)).drew hvl (hv3H.out.alloc _) (Blk.new W3 68 (vcs y).toArray) hvg (by show n₀ ≤ (W3.alloc _).heap.size; simp; omega) hbig
  have hfun : ∀ W4, World.grownBy (W3.alloc (Obj.cells #[Value.string y.val, Value.bool y.st, Value.bool y.ex, Value.bool y.ro] 68)).drew W4 (Value.slice a1 (vs L).length n1).ownBlock → Blk W4 p 65 #[Value.slice (some ⟨kg, 0, none⟩) ((ks L).length + 1) kc, vv, av] := fun W4 hg => by
    have hpl := hp3H.out.lt
    exact (hg.block p (by show p < (W3.alloc _).heap.size; simp; omega) (row_off hp3H.out (by decide) hv3H.out)).trans (hp3H.out.alloc _)
  have hfunH := Lib.hid hfun
  have hcallH := Lib.hid hcall
  clear hcall hfun
  go_region_with (go_at_call 48; refine hcallH.out.mono ?_; rintro e W4 ⟨vg, vc, rfl, hv4, hgr4, hvat⟩; have hp4 := Lib.hid (hfunH.out W4 hgr4); have hv4H := Lib.hid hv4; have hgr4H := Lib.hid hgr4; have hvatH := Lib.hid hvat; have q1 : W4.cell? ⟨p, 1, none⟩ = some vv := hp4.out.cell 1; have q2 : W4.frozen? ⟨p, 1, none⟩ = false := hp4.out.frozen 1; clear hv4 hgr4 hvat)
  all_goals
    go_wp2_with fail
    refine bodyPost_end (results_none rfl _ _ _) rfl ?_
    have hh := hhH.out
    have hV := hH.out
    have hi := hiH.out
    have hmm := hmH.out
    obtain ⟨W5, hW5⟩ : ∃ W5, W4.setCell ⟨p, 1, none⟩ (Value.slice (some ⟨vg, 0, none⟩) ((vs L).length + 1) vc) = W5 := ⟨_, rfl⟩
    have hp5 : Blk W5 p 65 #[Value.slice (some ⟨kg, 0, none⟩) ((ks L).length + 1) kc, Value.slice (some ⟨vg, 0, none⟩) ((vs L).length + 1) vc, av] := by rw [← hW5]; exact hp4.out.set_ 1 _
    have hfar5 : ∀ k, k ≠ p → W5.heap[k]? = W4.heap[k]? := fun k hk => by rw [← hW5]; exact Below.heap_setCell W4 _ _ k hk
    have hs5 : W5.heap.size = W4.heap.size := by rw [← hW5]; simp [World.setCell]
    have hgr := hgr4H.out
    have hpass : ∀ k, k < W3.heap.size → k ≠ p → some k ≠ (Value.slice a1 (vs L).length n1).ownBlock → W5.heap[k]? = W3.heap[k]? := fun k hk hkp hkv =>
      (hfar5 k hkp).trans ((hgr.block k (by show k < (W3.alloc _).heap.size; simp; omega) hkv).trans (Below.heap_alloc W3 _ k hk))
    have hoff : ∀ {v : Value} {n : Nat} {xs : List Value}, W3.ownsRow n₀ 9 1 v n xs → W5.ownsRow n₀ 9 1 v n xs := fun h => row_keep h (fun g hg => hpass g (row_lt h hg) (fun e => row_off hp3H.out (by decide) h (by rw [← e]; exact hg.symm)) (row_row (by decide) h hv3H.out hg))
    have hW3 := hW3H.out
    have hs3 : W3.heap.size = W2.heap.size := by rw [← hW3]; simp [World.setCell]
    have hsz2 := hgrH.out.size
    have hszW := hSH.out
    have hsz4 := hgr.size
    have ho5 : W5.os = W4.os ∧ W5.tape = W4.tape ∧ W5.output = W4.output := by rw [← hW5]; exact ⟨rfl, rfl, rfl⟩
    have ho3 : W3.os = W2.os ∧ W3.tape = W2.tape ∧ W3.output = W2.output := by rw [← hW3]; exact ⟨rfl, rfl, rfl⟩
    have hsz2' : W.heap.size + 1 ≤ W2.heap.size := by simpa using hsz2
    have hsz4' : W3.heap.size + 1 ≤ W4.heap.size := by have : (W3.alloc _).heap.size ≤ W4.heap.size := hsz4; simpa using this
    rw [hW5, hi]
    refine ⟨rfl, _, _, ⟨hp5, hV.base, ?_, ?_, hoff ha3H.out, ?_, ?_, ?_, hV.alen⟩, ?_, ?_, ?_⟩
    · rw [ks_ins, ins_len _ _ _ (by rw [ks_len, ← vs_len]; exact hvl)]
      exact hoff hk3H.out
    · rw [vs_ins, ins_len _ _ _ hvl]
      exact row_keep hv4H.out (fun g hg => hfar5 g (fun e => row_off hp4.out (by decide) hv4H.out (by rw [← e]; exact hg.symm)))
    · intro g hg
      obtain rfl : kg = g := by simpa [Value.ownBlock] using hg
      rcases hkg2 with e | e
      · exact hV.apart kg e
      · intro e2
        have := row_lt hV.args e2
        omega
    · rw [ks_ins, ← hi]
      exact sorted_ins hV.srt hh
    · rw [ins_len _ _ _ (by rw [← vs_len]; exact hvl)]
      omega
    · refine ⟨ho5.1.trans (hgr.os.trans (ho3.1.trans (hgrH.out.os.trans hBelH.out.os))), ho5.2.1.trans (hgr.tape.trans (ho3.2.1.trans (hgrH.out.tape.trans hBelH.out.tape))), ho5.2.2.trans (hgr.output.trans (ho3.2.2.trans (hgrH.out.output.trans hBelH.out.output))), by omega, fun k hk h1 h2 h3 => ?_⟩
      refine (hpass k (by omega) h1 (by rw [← e1]; exact h3)).trans ?_
      refine ((by rw [← hW3]; exact Below.heap_setCell W2 _ _ k h1 : W3.heap[k]? = W2.heap[k]?)).trans ?_
      refine (hgrH.out.block k (by simp; omega) (by rw [← e0H.out]; exact h2)).trans ?_
      exact (Below.heap_alloc W _ k (by omega)).trans (hBelH.out.block k (by omega))
    · intro g hg
      obtain rfl : kg = g := by simpa [Value.ownBlock] using hg
      exact hkg2
    · intro g hg
      obtain rfl : vg = g := by simpa [Value.ownBlock] using hg
      rcases hvatH.out with e | e
      · exact .inl (by rw [e1]; exact e)
      · have e' : W3.heap.size + 1 ≤ vg := by have : (W3.alloc _).heap.size ≤ vg := e; simpa using this
        exact .inr (by omega)

end Go.Proofs.Ytklepnldoajghaa
