/- Exec of a table. Condition: the table's cells are as stated. -/
import Derived.Test.YtifoanmoadogoaaTabK
import Derived.Test.YtifoanmoadogoaaTabL
import Derived.Maps.OwnIn
import Derived.Maps.AppendAt
namespace Go.Proofs.Ytifoanmoadogoaa
open Go.RowKit Go.Shelf
attribute [local go_sem] Oper.semAt_some

theorem mem_upto {f : Nat → Sl} {k : Nat} (hk : k ≤ 32) {x : Fin 32 × Int} : x ∈ upto f k ↔ x.1.1 < k ∧ (f x.1.1).tk = true ∧ x.2 = (f x.1.1).x := by
  induction k with
  | zero => simp [upto]
  | succ k ih =>
    cases ht : (f k).tk
    · rw [upto_no ht, ih (by omega)]
      constructor
      · exact fun ⟨a, b⟩ => ⟨by omega, b⟩
      · rintro ⟨a, b⟩
        refine ⟨?_, b⟩
        by_cases e : x.1.1 = k
        · rw [e, ht] at b; cases b.1
        · omega
    · rw [upto_yes (by omega) ht, List.mem_append, ih (by omega), List.mem_singleton]
      constructor
      · rintro (⟨a, b⟩ | rfl)
        · exact ⟨by omega, b⟩
        · exact ⟨Nat.lt_succ_self k, ht, rfl⟩
      · rintro ⟨a, b, c⟩
        by_cases e : x.1.1 = k
        · refine .inr ?_
          obtain ⟨⟨i, hi⟩, v⟩ := x
          dsimp only at e c b
          subst e
          rw [c]
        · exact .inl ⟨by omega, b, c⟩
theorem pre_upto {f : Nat → Sl} {n : Nat} (hn : n ≤ 32) {pre : List (Fin 32 × Int)} {x : Fin 32 × Int} (h : pre ++ [x] <+: upto f n) : pre = upto f x.1.1 := by
  induction n with
  | zero => simp [upto] at h
  | succ n ih =>
    cases ht : (f n).tk
    · rw [upto_no ht] at h
      exact ih (by omega) h
    · rw [upto_yes (by omega) ht] at h
      rcases List.prefix_concat_iff.1 h with h | h
      · obtain ⟨h1, h2⟩ := List.append_inj' h rfl
        obtain rfl : x = (⟨n, by omega⟩, (f n).x) := by simpa using h2
        exact h1
      · exact ih (by omega) h

/-- What Exec leaves and tells when these have come. -/
def gP (f : Nat → Sl) (pre : List (Fin 32 × Int)) : Nat → Sl := fun j => if (f j).mr = true ∧ j ∈ pre.map (·.1.1) then Sl.none else f j
def lsP (f : Nat → Sl) (pre : List (Fin 32 × Int)) : List Int := (pre.filter (fun x => (f x.1.1).mr)).map (·.2)
theorem gP_nil (f : Nat → Sl) : gP f [] = f := by funext j; simp [gP]
theorem mem_snoc {pre : List (Fin 32 × Int)} {x : Fin 32 × Int} {j : Nat} : j ∈ (pre ++ [x]).map (fun x => x.1.1) ↔ j ∈ pre.map (fun x => x.1.1) ∨ j = x.1.1 := by
  rw [List.map_append, List.mem_append, List.map_singleton, List.mem_singleton]
theorem gP_yes {f : Nat → Sl} {pre : List (Fin 32 × Int)} {x : Fin 32 × Int} (h : (f x.1.1).mr = true) : gP f (pre ++ [x]) = upd (gP f pre) x.1.1 Sl.none := by
  funext j
  unfold gP upd
  by_cases e : j = x.1.1
  · rw [if_pos e, if_pos ⟨by rw [e]; exact h, mem_snoc.2 (.inr e)⟩]
  · rw [if_neg e]
    simp only [mem_snoc, e, or_false]
theorem gP_no {f : Nat → Sl} {pre : List (Fin 32 × Int)} {x : Fin 32 × Int} (h : (f x.1.1).mr = false) : gP f (pre ++ [x]) = gP f pre := by
  funext j
  unfold gP
  by_cases e : j = x.1.1
  · rw [if_neg (by rw [e, h]; simp), if_neg (by rw [e, h]; simp)]
  · simp only [mem_snoc, e, or_false]
theorem lsP_yes {f : Nat → Sl} {pre : List (Fin 32 × Int)} {x : Fin 32 × Int} (h : (f x.1.1).mr = true) : lsP f (pre ++ [x]) = lsP f pre ++ [x.2] := by simp [lsP, h]
theorem lsP_no {f : Nat → Sl} {pre : List (Fin 32 × Int)} {x : Fin 32 × Int} (h : (f x.1.1).mr = false) : lsP f (pre ++ [x]) = lsP f pre := by simp [lsP, h]
theorem gP_at {f : Nat → Sl} {pre : List (Fin 32 × Int)} {k : Nat} (hk : k ≤ 32) (h : pre = upto f k) (j : Nat) (hj : k ≤ j) : gP f pre j = f j := by
  unfold gP
  rw [if_neg]
  rintro ⟨_, h2⟩
  obtain ⟨y, hy, rfl⟩ := List.mem_map.1 h2
  rw [h] at hy
  have := ((mem_upto hk).1 hy).1
  omega
theorem lsP_len {f : Nat → Sl} {n : Nat} {pre : List (Fin 32 × Int)} (h : pre <+: upto f n) : (lsP f pre).length ≤ n := by
  unfold lsP
  rw [List.length_map]
  exact Nat.le_trans (List.length_filter_le _ _) (Nat.le_trans h.length_le (upto_len f n))

def icsT (v : Int) : List Value := [.int .i64 v]
abbrev rowI (b : Nat) (w : World) (v : Value) (l : List Int) : Prop := w.ownsRow b 3 1 v l.length (l.map (.int .i64))
theorem TabAt.same {w : World} {T : Nat} {f g : Nat → Sl} (h : TabAt w T f) (k : TabAt w T g) (i : Nat) (hi : i < 32) : f i = g i := by
  have a0 := (h.c0 i hi).symm.trans (k.c0 i hi)
  have a1 := (h.c1 i hi).symm.trans (k.c1 i hi)
  have a2 := (h.c2 i hi).symm.trans (k.c2 i hi)
  cases hf : f i
  cases hg : g i
  rw [hf, hg] at a0 a1 a2
  simp at a0 a1 a2
  rw [a0, a1, a2]
theorem TabAt.congr {w : World} {T : Nat} {f g : Nat → Sl} (h : TabAt w T f) (e : ∀ i, i < 32 → f i = g i) : TabAt w T g :=
  ⟨fun i hi => by rw [← e i hi]; exact h.c0 i hi, fun i hi => by rw [← e i hi]; exact h.c1 i hi, fun i hi => by rw [← e i hi]; exact h.c2 i hi, h.fz⟩
theorem info3 : (Try.prog.info? 3).map (fun i => (i.zero, i.size, i.bytes)) = some (some (.int .i64 0), 1, 8) := by kernel_rfl
theorem info_parts {t : TypeId} {z : Value} {s b : Nat} (h : (Try.prog.info? t).map (fun i => (i.zero, i.size, i.bytes)) = some (some z, s, b)) : ∃ i, Try.prog.info? t = some i ∧ i.zero = some z ∧ i.size = s ∧ i.bytes = b := by
  cases hi : Try.prog.info? t with
  | none => rw [hi] at h; cases h
  | some i => rw [hi] at h; simp at h; exact ⟨i, rfl, h.1, h.2.1, h.2.2⟩
/-- A block known whole. -/
def Blk (W : World) (g : Nat) (t : TypeId) (cs : Array Value) : Prop := W.heap[g]? = some (.cells cs t (0, 0))
theorem Blk.lt {W : World} {g : Nat} {t : TypeId} {cs : Array Value} (h : Blk W g t cs) : g < W.heap.size := (Array.getElem?_eq_some_iff.1 h).1
theorem Blk.cell {W : World} {g : Nat} {t : TypeId} {cs : Array Value} (h : Blk W g t cs) (i : Nat) : W.cell? ⟨g, i, none⟩ = cs[i]? := by
  unfold Blk at h
  simp [World.cell?, h]
theorem Blk.frozen {W : World} {g : Nat} {t : TypeId} {cs : Array Value} (h : Blk W g t cs) (i : Nat) : W.frozen? ⟨g, i, none⟩ = false := by
  unfold Blk at h
  simp [World.frozen?, h]
theorem Blk.shape {W : World} {g : Nat} {t : TypeId} {cs : Array Value} (h : Blk W g t cs) : W.shape? g = some (t, cs.size) := by
  unfold Blk at h
  simp [World.shape?, h]
theorem Blk.new (w : World) (t : TypeId) (cs : Array Value) : Blk (w.alloc (.cells cs t)) w.heap.size t cs := World.alloc_heap_new w _
theorem Blk.alloc {W : World} {g : Nat} {t : TypeId} {cs : Array Value} (h : Blk W g t cs) (o : Obj) : Blk (W.alloc o) g t cs := (Below.heap_alloc W o g h.lt).trans h
theorem Blk.set_ {W : World} {g : Nat} {t : TypeId} {cs : Array Value} (h : Blk W g t cs) (i : Nat) (u : Value) : Blk (W.setCell ⟨g, i, none⟩ u) g t (cs.setIfInBounds i u) := by
  unfold Blk at h ⊢
  simp [World.setCell, Array.getElem?_modify, h]
theorem Blk.far {W : World} {g : Nat} {t : TypeId} {cs : Array Value} (h : Blk W g t cs) {p : Addr} (hp : g ≠ p.block) (u : Value) : Blk (W.setCell p u) g t cs := (Below.heap_setCell W p u g hp).trans h
theorem row_keep {w w1 : World} {base : Nat} {e : TypeId} {size : Nat} {v : Value} {n : Nat} {xs : List Value} (h : w.ownsRow base e size v n xs) (hb : ∀ g, v.ownBlock = some g → w1.heap[g]? = w.heap[g]?) : w1.ownsRow base e size v n xs := by
  refine ⟨h.1, ?_⟩
  rcases h.2 with h | ⟨g, cap, cur, e1, e2, e3, e4⟩
  · exact .inl h
  · refine .inr ⟨g, cap, cur, e1, e2, ?_, e4⟩
    rw [hb g (by rw [e1]; rfl)]; exact e3
theorem row_lt {w : World} {base : Nat} {e : TypeId} {size : Nat} {v : Value} {n : Nat} {xs : List Value} (h : w.ownsRow base e size v n xs) {g : Nat} (hg : v.ownBlock = some g) : g < w.heap.size := (h.lt g hg).2
theorem row_beneath {w w1 : World} {base : Nat} {e : TypeId} {size : Nat} {v : Value} {n : Nat} {xs : List Value} (h : w.ownsRow base e size v n xs) (hb : Below w.heap.size w w1) : w1.ownsRow base e size v n xs :=
  row_keep h (fun g hg => hb.block g (row_lt h hg))
theorem blk_beneath {w w1 : World} {g : Nat} {t : TypeId} {cs : Array Value} (h : Blk w g t cs) (hb : Below w.heap.size w w1) : Blk w1 g t cs := (hb.block g h.lt).trans h

theorem row_off {W : World} {g : Nat} {t e : TypeId} {cs : Array Value} {base size n : Nat} {v : Value} {xs : List Value} (hB : Blk W g t cs) (hte : t ≠ e) (h : W.ownsRow base e size v n xs) : some g ≠ v.ownBlock := by
  rcases h.2 with ⟨rfl, _⟩ | ⟨g1, cap, cur, rfl, _, hb, _⟩
  · simp [Value.ownBlock]
  · intro e
    obtain rfl : g = g1 := by simpa [Value.ownBlock] using e
    have := hB.symm.trans hb
    simp at this
    exact hte this.2
theorem row_row {W : World} {e e' : TypeId} (hee : e ≠ e') {base size k base' size' k' : Nat} {v v' : Value} {xs xs' : List Value} (h : W.ownsRow base e size v k xs) (h' : W.ownsRow base' e' size' v' k' xs') {g : Nat} (hg : v.ownBlock = some g) : some g ≠ v'.ownBlock := by
  rcases h.2 with ⟨rfl, _⟩ | ⟨g1, cap, cur, rfl, _, hb, _⟩
  · simp [Value.ownBlock] at hg
  · obtain rfl : g1 = g := by simpa [Value.ownBlock] using hg
    exact row_off hb hee h'

theorem ownsRow_slice {w : World} {M : Nat} {e : TypeId} {size : Nat} {v : Value} {n : Nat} {xs : List Value} (h : w.ownsRow M e size v n xs) : ∃ a c, v = .slice a n c := by
  rcases h.2 with ⟨rfl, rfl⟩ | ⟨g, cap, _, rfl, _⟩
  · exact ⟨none, 0, rfl⟩
  · exact ⟨_, cap, rfl⟩

set_option maxRecDepth 100000 in
set_option maxHeartbeats 4000000 in
theorem exec_in (n : Nat) (hn : 5 ≤ n) {T : Nat} {f : Nat → Sl} (w : World) (hT : TabAt w T f) :
    CallsIn Fence.wide n Try.prog 36 #[.pointer (some ⟨T, 0, none⟩)] w fun e w' => ∃ v, e = .returned v ∧ rowI w.heap.size w' v (lsP f (upto f 32)) ∧ TabAt w' T (gP f (upto f 32)) ∧ Frame T T w w' := by
  obtain ⟨i0, hi0, hz0, hz1, hz2⟩ := info_parts info3
  obtain ⟨m, hm⟩ : ∃ m, w.heap.size = m := ⟨_, rfl⟩
  have hTm : T < m := by rw [← hm]; exact hT.lt
  have h1 : 1 ≤ n := by omega
  refine callsIn_of_wp_marks Try.func36 rfl trivial ?_ rfl
  simp only [Try.ntmps36, List.size_toArray, List.length_cons, List.length_nil, Nat.reduceAdd, Nat.reduceSub, Array.replicate_succ, Array.replicate_zero, List.push_toArray, List.append_toArray, List.nil_append, List.cons_append]
  gi_wp2_with (refine ⟨trivial, ?_⟩; gi_at_call 40; refine (callsIn_wide.2 (all_any _ _)).mono ?_; rintro e w' ⟨rfl, rfl⟩)
  obtain ⟨W0, hW0⟩ : ∃ W0, ((w.alloc (.cells #[.pointer (some ⟨T, 0, none⟩)] 54)).alloc (.cells #[.slice none 0 0] 50)).alloc (.cells #[.pointer (some ⟨T, 0, none⟩)] 54) = W0 := ⟨_, rfl⟩
  have hs0 : W0.heap.size = m + 3 := by rw [← hW0, ← hm]; simp
  have g0 : Blk W0 m 54 #[.pointer (some ⟨T, 0, none⟩)] := by rw [← hW0, ← hm]; exact ((Blk.new w 54 _).alloc _).alloc _
  have g1 : Blk W0 (m + 1) 50 #[.slice none 0 0] := by
    have h := (Blk.new (w.alloc (.cells #[.pointer (some ⟨T, 0, none⟩)] 54)) 50 #[.slice none 0 0]).alloc (.cells #[.pointer (some ⟨T, 0, none⟩)] 54)
    rw [World.size_alloc, hW0, hm] at h
    exact h
  have g2 : Blk W0 (m + 2) 54 #[.pointer (some ⟨T, 0, none⟩)] := by
    have h := Blk.new ((w.alloc (.cells #[.pointer (some ⟨T, 0, none⟩)] 54)).alloc (.cells #[.slice none 0 0] 50)) 54 #[.pointer (some ⟨T, 0, none⟩)]
    rw [World.size_alloc, World.size_alloc, hW0, hm] at h
    exact h
  have hBel : Below m w W0 := by rw [← hW0]; exact (((Below.refl _ w).alloc (by omega) _).alloc (by simp; omega) _).alloc (by simp; omega) _
  have hT0 : TabAt W0 T f := hT.keep (hBel.block T hTm)
  have hF0 : Frame T T w W0 := ⟨hBel.os, hBel.tape, hBel.output, hBel.size, fun k hk _ _ => hBel.block k (by omega)⟩
  rw [hW0]
  refine range_law rfl h1 (gf := 53) (lb := #[.pointer (some ⟨m + 2, 0, none⟩)]) rfl trivial (enters_of Try.func53 (by kernel_rfl) rfl)
    (all_x (n - 1) (by omega) (m + 2) T f W0 (by omega) (g2.cell 0) hT0) (keepX_b (by omega) (by omega)) (Below.refl _ _) (fun _ => rfl)
    (fun U pre X => ∃ v, Blk X m 54 #[.pointer (some ⟨T, 0, none⟩)] ∧ Blk X (m + 1) 50 #[v] ∧ rowI m X v (lsP f pre) ∧ TabAt X T (gP f pre) ∧ Frame T T w X ∧ m + 3 ≤ X.heap.size ∧ v.ownBlock ≠ some (m + 2) ∧ ∀ k ∈ U, m + 2 < k ∧ k < X.heap.size ∧ v.ownBlock ≠ some k)
    (fun _ _ _ _ => False)
    (fun U U' pre A B hs he => by
      obtain ⟨v, hb0, hb1, hr, ht, hF, hsz, hv2, hU⟩ := hs
      have hs2 := he.size
      have old : ∀ k, k ≤ m + 1 → B.heap[k]? = A.heap[k]? := fun k hk => he.block k (by omega) (fun e => by have := (hU _ e).1; omega)
      refine ⟨v, (old m (by omega)).trans hb0, (old _ (by omega)).trans hb1, row_keep hr (fun g hg => he.block g (row_lt hr hg) (fun e => (hU g e).2.2 hg)), ht.keep (old T (by omega)),
        ⟨he.os.trans hF.os, he.tape.trans hF.tape, he.output.trans hF.output, by have := hF.size; omega, fun k hk h1 h2 => (old k (by omega)).trans (hF.block k hk h1 h2)⟩, by omega, hv2, fun k hk => ?_⟩
      rcases he.new k hk with e | e
      · have h := hU k e
        exact ⟨h.1, by omega, h.2.2⟩
      · exact ⟨by omega, e.2, fun g => by have := row_lt hr g; omega⟩)
    (fun _ _ _ _ _ _ h _ => h)
    ⟨_, g0, g1, World.ownsRow_nil _ _ _ _, by rw [gP_nil]; exact hT0, hF0, by omega, (fun e => by cases e), fun k hk => by cases hk⟩
    ?_ (fun _ X => X) (fun x X => Below.refl _ X) (fun _ _ _ _ h => h) ?assign ?body ?done ?stop
  case assign =>
    intro l' x X K hK
    gi_wp2
    exact hK
  case body =>
    rintro l' U pre x X X' o hsp - hl' hX' ⟨v, hb0, hb1, hr, ht, hF, hsz, hv2, hU⟩
    obtain ⟨⟨k, hk⟩, xv⟩ := x
    have hpre := pre_upto (Nat.le_refl 32) hsp
    have hmem := (mem_upto (Nat.le_refl 32)).1 (hsp.subset (List.mem_append_right _ (List.mem_singleton.2 rfl)))
    dsimp only at hpre hmem
    have hgk : gP f pre k = f k := gP_at (by omega) hpre k (Nat.le_refl _)
    have p0 : X'.cell? ⟨m, 0, none⟩ = some (.pointer (some ⟨T, 0, none⟩)) := hb0.cell 0
    have hlen : (lsP f pre).length ≤ 32 := lsP_len ((List.prefix_append _ _).trans hsp)
    have hXs : X'.heap.size = X.heap.size := by rw [hX']; simp [World.putObj]
    clear hX'
    dsimp only
    have hmk := marked_in k hk X' ht
    rw [hgk] at hmk
    have hmkH := Lib.hid hmk
    cases hmr : (f k).mr
    · rw [hmr, Bool.and_false] at hmkH
      have hgn := Lib.hid (gP_no (f := f) (pre := pre) (x := (⟨k, hk⟩, xv)) hmr)
      have hln := Lib.hid (lsP_no (f := f) (pre := pre) (x := (⟨k, hk⟩, xv)) hmr)
      clear hmk hmr hgk hpre hmem
      gi_wp2
      refine ⟨trivial, fun h => (by cases h), ?_⟩
      refine (CallsIn.inRound l' (callsIn_wide.2 hmkH.out)).mono ?_
      rintro e w5 ⟨rfl, rfl⟩
      gi_wp2
      exact ⟨⟨v, hb0, hb1, by rw [hln.out]; exact hr, by rw [hgn.out]; exact ht, hF, hsz, hv2, hU⟩, ⟨Nat.le_refl _, fun _ _ _ => rfl⟩, rfl, fun g hg => ⟨g, hg, fun _ _ => rfl⟩⟩
    · rw [hmr, hmem.2.1] at hmkH
      have hgy := Lib.hid (gP_yes (f := f) (pre := pre) (x := (⟨k, hk⟩, xv)) hmr)
      have hly := Lib.hid (lsP_yes (f := f) (pre := pre) (x := (⟨k, hk⟩, xv)) hmr)
      have hcutH := Lib.hid (cut_in k hk X' ht (by rw [hgk]; exact hmem.2.1))
      have hb0H := Lib.hid hb0
      have hb1H := Lib.hid hb1
      have hrH := Lib.hid hr
      have htH := Lib.hid ht
      have hFH := Lib.hid hF
      have hUH := Lib.hid hU
      have hTX : T < X'.heap.size := ht.lt
      clear hmk hmr hgk hpre hmem hb0 hb1 hr ht hF hU
      gi_wp2
      refine ⟨trivial, fun h => (by cases h), ?_⟩
      refine (CallsIn.inRound l' (callsIn_wide.2 hmkH.out)).mono ?_
      rintro e w5 ⟨rfl, rfl⟩
      gi_wp2
      refine ⟨trivial, fun h => (by cases h), ?_⟩
      refine (CallsIn.inRound l' (callsIn_wide.2 hcutH.out)).mono ?_
      rintro e w6 ⟨rfl, ht6, hF6⟩
      have hs6 := hF6.size
      have hb1' : Blk w6 (m + 1) 50 #[v] := (hF6.block _ hb1H.out.lt (by omega) (by omega)).trans hb1H.out
      have hr6 : rowI m w6 v (lsP f pre) := row_keep hrH.out (fun g hg => hF6.block g (row_lt hrH.out hg) (fun e => by have := (hrH.out.lt g hg).1; omega) (fun e => by have := (hrH.out.lt g hg).1; omega))
      have ht6H := Lib.hid ht6
      have hF6H := Lib.hid hF6
      obtain ⟨a0, c0, rfl⟩ := ownsRow_slice hr6
      have r0 : w6.cell? ⟨m + 1, 0, none⟩ = some (.slice a0 (lsP f pre).length c0) := hb1'.cell 0
      have hr6H := Lib.hid hr6
      have hb1H' := Lib.hid hb1'
      clear ht6 hF6 hr6 hb1'
      gi_wp2_with (gi_at_builtin; refine wpListIn_append_own_at _ rfl _ _ 50 rfl m 3 i0 (.int .i64 0) 1 8 Try.underlying50 hi0 hz0 hz1 hz2 rfl (by decide) (.slice a0 (lsP f pre).length c0) (lsP f pre).length ((lsP f pre).map (.int .i64)) rfl (hr6H.out.alloc _) ⟨w6.heap.size, 0, none⟩ 1 1 [.int .i64 xv] rfl rfl ?_ (by simp [Value.oneCell']) (by unfold maxLen; omega) (by omega) (by simp; omega) ?_; rotate_left; intro v' w7 hown' hgrow _ hat; obtain ⟨a1, c1, rfl⟩ := ownsRow_slice hown'; have hm1 : Blk w7 (m + 1) 50 #[.slice a0 (lsP f pre).length c0] := (hgrow.block (m + 1) (by simp; omega) (row_off hb1H'.out (by decide) hr6H.out)).trans (hb1H'.out.alloc _); have s0 : w7.cell? ⟨m + 1, 0, none⟩ = some (.slice a0 (lsP f pre).length c0) := hm1.cell 0; have s1 : w7.frozen? ⟨m + 1, 0, none⟩ = false := hm1.frozen 0; have hownH := Lib.hid hown'; have hgrowH := Lib.hid hgrow; have hatH := Lib.hid hat; have hm1H := Lib.hid hm1; clear hown' hgrow hat hm1)
      · have hgrow := hgrowH.out
        have hown := hownH.out
        have hU := hUH.out
        have hsz7 : w6.heap.size + 1 ≤ w7.heap.size := by have := hgrow.size; simpa using this
        obtain ⟨w8, hw8⟩ : ∃ w8, w7.setCell ⟨m + 1, 0, none⟩ (.slice a1 ((lsP f pre).length + 1) c1) = w8 := ⟨_, rfl⟩
        have hs8 : w8.heap.size = w7.heap.size := by rw [← hw8]; simp [World.setCell]
        have hfar : ∀ i, i ≠ m + 1 → w8.heap[i]? = w7.heap[i]? := fun i hi => by rw [← hw8]; exact Below.heap_setCell _ _ _ i hi
        have hm8 : Blk w8 (m + 1) 50 #[.slice a1 ((lsP f pre).length + 1) c1] := by rw [← hw8]; exact hm1H.out.set_ 0 _
        have hr6 := hr6H.out
        have h67 : ∀ i, i < w6.heap.size → i ≠ m + 1 → (Value.slice a0 (lsP f pre).length c0).ownBlock ≠ some i → w8.heap[i]? = w6.heap[i]? := fun i hi h1 h2 => (hfar i h1).trans ((hgrow.block i (by simp; omega) (fun e => h2 e.symm)).trans (Below.heap_alloc w6 _ i hi))
        have hTo : (Value.slice a0 (lsP f pre).length c0).ownBlock ≠ some T := fun e => by have := (hr6.lt T e).1; omega
        have ho : w8.os = w7.os ∧ w8.tape = w7.tape ∧ w8.output = w7.output := by rw [← hw8]; exact ⟨rfl, rfl, rfl⟩
        rw [hw8]
        refine ⟨⟨.slice a1 ((lsP f pre).length + 1) c1, ?_, hm8, ?_, ?_, ?_, by omega, ?_, fun i hi => ?_⟩, ⟨by omega, fun i hi his => ?_⟩, ?_, fun g hg => ?_⟩
        · exact (h67 m (by omega) (by omega) (fun e => row_off ((hF6H.out.block m hb0H.out.lt (by omega) (by omega)).trans hb0H.out) (by decide) hr6 e.symm)).trans ((hF6H.out.block m hb0H.out.lt (by omega) (by omega)).trans hb0H.out)
        · have e : (lsP f (pre ++ [(⟨k, hk⟩, xv)])) = lsP f pre ++ [xv] := hly.out
          show w8.ownsRow m 3 1 _ _ _
          rw [e, List.length_append, List.map_append]
          exact row_keep hown (fun g hg => hfar g (fun e => row_off hm1H.out (by decide) hown (by rw [← e]; exact hg.symm)))
        · rw [hgy.out]
          exact ht6H.out.keep (h67 T (by omega) (by omega) hTo)
        · refine ⟨ho.1.trans (hgrow.os.trans (hF6H.out.os.trans hFH.out.os)), ho.2.1.trans (hgrow.tape.trans (hF6H.out.tape.trans hFH.out.tape)), ho.2.2.trans (hgrow.output.trans (hF6H.out.output.trans hFH.out.output)), by have := hFH.out.size; omega, fun i hi h1 h2 => ?_⟩
          exact (h67 i (by omega) (by omega) (fun e => by have := (hr6.lt i e).1; omega)).trans ((hF6H.out.block i (by omega) h1 h2).trans (hFH.out.block i hi h1 h2))
        · intro e
          rcases hatH.out with g | g
          · exact hv2 (by rw [← g]; exact e)
          · rw [g] at e
            have : w6.heap.size + 1 = m + 2 := by simpa using e
            omega
        · obtain ⟨h1, h2, h3⟩ := hU i hi
          refine ⟨h1, by omega, fun e => ?_⟩
          rcases hatH.out with g | g
          · exact h3 (by rw [← g]; exact e)
          · rw [g] at e
            have : w6.heap.size + 1 = i := by simpa using e
            omega
        · obtain ⟨h1, h2, h3⟩ := hU i hi
          exact (h67 i (by omega) (by omega) h3).trans (hF6H.out.block i his (by omega) (by omega))
        · exact (h67 (m + 2) (by omega) (by omega) hv2).trans (hF6H.out.block (m + 2) (by omega) (by omega) (by omega))
        · exact ⟨upd g k Sl.none, (ht6H.out.keep (h67 T (by omega) (by omega) hTo)).congr (fun i hi => by unfold upd; rw [htH.out.same hg i hi]), fun i hi => by
            have : k < i := hi
            unfold upd
            rw [if_neg (by omega)]⟩
      · intro j u hj
        cases j with
        | zero =>
          obtain rfl : (.int .i64 xv : Value) = u := by simpa using hj
          rw [Addr.add_lit]
          exact (Blk.new w6 3 #[.int .i64 xv]).cell 0
        | succ j => simp at hj
  case done =>
    rintro D U ys X hD hDU rfl ⟨v, hb0, hb1, hr, ht, hF, hsz, hv2, hU⟩ hK
    obtain ⟨a0, c0, rfl⟩ := ownsRow_slice hr
    have r0 : X.cell? ⟨m + 1, 0, none⟩ = some (.slice a0 (lsP f (upto f 32)).length c0) := hb1.cell 0
    gi_wp2
    refine ⟨by simp, .inl ⟨_, _, rfl, run_takeDeferred hK, ?_⟩⟩
    have hmD : m + 2 < D := (hU D hDU).1
    refine ⟨_, results_tmp rfl _ _ _, _, rfl, ?_, ht.keep (World.putObj_heap_other (by omega)), ?_⟩
    · rw [hm]
      exact row_keep hr (fun g hg => World.putObj_heap_other (fun e => (hU D hDU).2.2 (by rw [← e]; exact hg)))
    · exact ⟨hF.os, hF.tape, hF.output, by have := hF.size; simpa [World.putObj] using this, fun k hk h1 h2 => (World.putObj_heap_other (by omega)).trans (hF.block k hk h1 h2)⟩
  case stop =>
    rintro D c U pre X hD hDU hpre h hK
    exact h.elim

theorem exec_any {T : Nat} {f : Nat → Sl} (w : World) (hT : TabAt w T f) : Calls Try.prog 36 #[.pointer (some ⟨T, 0, none⟩)] w fun e w' => ∃ v, e = .returned v ∧ rowI w.heap.size w' v (lsP f (upto f 32)) ∧ TabAt w' T (gP f (upto f 32)) ∧ Frame T T w w' :=
  callsIn_wide.1 (exec_in 5 (Nat.le_refl _) w hT)
end Go.Proofs.Ytifoanmoadogoaa
