/- The entries of a directory; slices.Insert of one of them. Condition: the row is owned, the element lies in a block of its own. -/
import Derived.Test.YtohgecmbkjienaaFlA
import Derived.Test.YtohgecmbkjienaaShelf
import Derived.Lib.Overlaps
import Derived.Shelf.Spec.SlicesInsert
import Derived.Shelf.Spec.SlicesInsertGrow
import Derived.Lib.AppendZerosOnto
namespace Go.Proofs.Ytohgecmbkjienaa
open Go.RowKit
attribute [local go_sem] Oper.semAt_some

/-- An entry: a name and a number. -/
abbrev En := ByteArray × Nat
def ecs (x : En) : List Value := [.string x.1, .int .i64 x.2]
theorem info105 : (Try.prog.info? 105).map (fun i => (i.zero, i.size, i.bytes)) = some (some (.agg #[.string ByteArray.empty, .int .i64 0]), 2, 24) := by kernel_rfl
theorem ecs_len (x : En) : (ecs x).length = 2 := rfl
theorem ecs_one (x : En) : ∀ u ∈ ecs x, u.oneCell' = true := by simp [ecs, Value.oneCell']
theorem ownsRow_slice {w : World} {M : Nat} {e : TypeId} {size : Nat} {v : Value} {n : Nat} {xs : List Value} (h : w.ownsRow M e size v n xs) : ∃ a c, v = .slice a n c := by
  rcases h.2 with ⟨rfl, rfl⟩ | ⟨g, cap, _, rfl, _⟩
  · exact ⟨none, 0, rfl⟩
  · exact ⟨_, cap, rfl⟩

set_option maxHeartbeats 4000000 in
set_option maxRecDepth 100000 in
theorem insert_e (n₀ : Nat) (V : List En) (x : En) (i : Nat) (v : Value) (g' : Nat) (tx : TypeId) (w : World) (hi : i ≤ V.length) (hown : w.ownsRow n₀ 105 2 v V.length (flat ecs V)) (hx : Blk w g' tx (ecs x).toArray)
    (hgv : v.ownBlock ≠ some g') (hn0 : n₀ ≤ w.heap.size) (hbig : V.length ≤ 100000) :
    Calls Try.prog 72 #[v, .int .i64 i, .slice (some ⟨g', 0, none⟩) 1 1] w fun e w' => ∃ gg cc, e = .returned (.slice (some ⟨gg, 0, none⟩) (V.length + 1) cc) ∧ w'.ownsRow n₀ 105 2 (.slice (some ⟨gg, 0, none⟩) (V.length + 1) cc) (V.length + 1) (flat ecs (ins V i x)) ∧ w.grownBy w' v.ownBlock ∧ (v.ownBlock = some gg ∨ w.heap.size ≤ gg) := by
  obtain ⟨i0, hi0, hz0, hz1, hz2⟩ := info_parts info105
  obtain ⟨n, hn⟩ : ∃ n, V.length = n := ⟨_, rfl⟩
  have hk : ∀ y, (ecs y).length = 2 := ecs_len
  have hsz : (Try.prog.info? 105).map (·.size) = some 2 := by rw [hi0]; simp [hz1]
  have h1x : ∀ u ∈ ecs x, u.oneCell' = true := ecs_one x
  have h1V : ∀ l : List En, ∀ u ∈ flat ecs l, u.oneCell' = true := fun l u hu => by
    obtain ⟨y, _, hy⟩ := List.mem_flatMap.1 hu
    exact ecs_one y u hy
  by_cases hin : i = n
  · have hI : Hid (flat ecs (ins V i x) = flat ecs V ++ ecs x) := Lib.hid (by rw [flat_ins, hin, ← hn, List.take_length, List.drop_length]; simp [flat])
    rw [hn] at hown hbig ⊢
    obtain ⟨a, c, rfl⟩ := ownsRow_slice hown
    subst hin
    have hownH := Lib.hid hown
    have hxH := Lib.hid hx
    have hsrc : ∀ j u, (ecs x)[j]? = some u → w.cell? ((⟨g', 0, none⟩ : Addr).add j) = some u := hx.mem 0 (fun j u h => by simpa using h)
    have hsrcH := Lib.hid hsrc
    clear hown hx hsrc
    go_enter Try.func72, Try.ntmps72
    go_wp2_with (at_builtin; refine wpList_append_lies _ rfl _ _ 71 rfl n₀ 105 i0 _ 2 _ Try.underlying71 hi0 hz0 hz1 hz2 rfl (by decide) (.slice a i c) i _ rfl hownH.out ⟨g', 0, none⟩ 1 1 (ecs x) rfl (by rw [hk]) hsrcH.out h1x (by decide) (by unfold maxLen; omega) (by omega) hn0 _ rfl ?_; intro gg cc w' hown' hgr hat _)
    all_goals
      go_ret
      exact ⟨gg, cc, rfl, by rw [hI.out]; exact hown', by first | exact hgr | (cases a <;> exact hgr), by rcases hat with hat | hat; exact .inl (by first | exact hat | (cases a <;> exact hat)); exact .inr (Nat.le_of_eq hat.symm)⟩
  · have hilt : i < n := by omega
    have hD : V.length - i = n - i := by rw [hn]
    obtain ⟨A, hA⟩ : ∃ A, flat ecs (V.take i) = A := ⟨_, rfl⟩
    obtain ⟨D, hDd⟩ : ∃ D, flat ecs (V.drop i) = D := ⟨_, rfl⟩
    have hAl : A.length = i * 2 := by rw [← hA, flat_len hk, List.length_take, Nat.min_eq_left hi]
    have hDl : D.length = (n - i) * 2 := by rw [← hDd, flat_len hk, List.length_drop, hn]
    have hVf : flat ecs V = A ++ D := by rw [← hA, ← hDd, ← flat_append, List.take_append_drop]
    have hI : Hid (flat ecs (ins V i x) = A ++ ecs x ++ D) := Lib.hid (by rw [flat_ins, hA, hDd])
    have hDo : ∀ u ∈ D, u.oneCell' = true := by rw [← hDd]; exact h1V _
    rw [hn, hVf] at hown
    rw [hn] at hbig ⊢
    clear hi hn hA hDd hVf hD h1V
    obtain ⟨h1, h2⟩ := hown
    rcases h2 with ⟨rfl, h0⟩ | ⟨g, cap, cur, rfl, hg0, hgb, hncap, hcap, hcs, htk⟩
    · omega
    have hgne : g ≠ g' := fun e => hgv (by rw [e]; rfl)
    have hB : Blk w g 105 cur := hgb
    obtain ⟨r, hr⟩ : ∃ r, cur.toList = A ++ D ++ r := ⟨cur.toList.drop (n * 2), by rw [← htk, List.take_append_drop]⟩
    have hxl : (ecs x).length = 2 := hk x
    have hcl : cur.toList.length = cap * 2 := by rw [Array.length_toList, hcs]
    have hrl : (n * 2) + r.length = cap * 2 := by
      rw [← hcl, hr, List.length_append, List.length_append, hAl, hDl]
      omega
    have hsA : ∀ j u, A[j]? = some u → w.cell? ((⟨g, 0, none⟩ : Addr).add j) = some u := hB.mem 0 (fun j u h => by
      rw [Nat.zero_add, ← Array.getElem?_toList, hr, List.append_assoc, List.getElem?_append_left (List.getElem?_eq_some_iff.1 h).1]
      exact h)
    have hsD : ∀ (W : World), W.heap[g]? = w.heap[g]? → ∀ j u, D[j]? = some u → W.cell? ((⟨g, i * 2, none⟩ : Addr).add j) = some u := fun W hW j u h => by
      rw [World.cell?_of_block (w := w) (by rw [Addr.add_lit]; exact hW)]
      exact hB.mem (i * 2) (fun j u h => by
        rw [← Array.getElem?_toList, hr, List.append_assoc, ← hAl, List.getElem?_append_right (by omega), Nat.add_sub_cancel_left, List.getElem?_append_left (List.getElem?_eq_some_iff.1 h).1]
        exact h) j u h
    have hw1 : IntKind.i64.wrap ((i : Int) + 1) = (i : Int) + 1 := by rw [IntKind.wrap_i64]; omega
    have hw2 : IntKind.i64.wrap ((n : Int) + 1) = (n : Int) + 1 := by rw [IntKind.wrap_i64]; omega
    by_cases hroom : n + 1 ≤ cap
    · have hov : ∀ lb cb, (callFunc 79 #[.slice (some ⟨g', 0, none⟩) 1 1, .slice (some ⟨g, (i + 1) * 2, none⟩) lb cb]).run Try.prog w = .ok (.value (.bool false)) w := fun lb cb => by
        rw [run_callFunc_extern Try.func79 (by kernel_rfl) (by kernel_rfl) (by kernel_rfl) (e := Extern.SlicesOverlaps.overlaps #[71, 71] #[4]) (by kernel_rfl),
          Lib.run_overlaps_apart w 71 4 105 Try.underlying71 2 Try.sizeOf105 ⟨g', 0, none⟩ ⟨g, (i + 1) * 2, none⟩ 1 1 lb cb (Ne.symm hgne) tx 105 (ecs x).toArray.size cur.size (hx.shape) (hB.shape) (by rw [hcs]; omega) (hx.frozen _) (hx.frozen _)]
        rfl
      have hb0 : (0 : Int) ≤ (i : Int) + 1 := by omega
      have hb1 : (i : Int) + 1 ≤ (n : Int) + 1 := by omega
      have hb2 : ¬ (cap = i + 1) := by omega
      have hb3 : (i : Int) ≤ (n : Int) + 1 := by omega
      have hb4 : ¬ (cap = i) := by omega
      have hz2 : ¬ ((i : Int) = (n : Int)) := by omega
      have hin' : i ≤ n := by omega
      have htn : ((i : Int) + 1).toNat = i + 1 := by omega
      have hov' := Lib.hid hov
      have mixed : Try.prog.follows .mixedOrders = true := by kernel_rfl
      obtain ⟨R1, hR1⟩ : ∃ R1 : Array Value, R1 = (cur.toList.take ((i + 1) * 2) ++ D ++ cur.toList.drop ((i + 1) * 2 + D.length)).toArray := ⟨_, rfl⟩
      obtain ⟨R2, hR2⟩ : ∃ R2 : Array Value, R2 = (R1.toList.take (i * 2) ++ ecs x ++ R1.toList.drop (i * 2 + (ecs x).length)).toArray := ⟨_, rfl⟩
      have hrK : 2 ≤ r.length := by omega
      have hR1l : R1.toList = (A ++ D ++ r).take (A.length + 2) ++ D ++ (A ++ D ++ r).drop (A.length + 2 + D.length) := by
        rw [hR1, ← hr, show A.length + 2 = (i + 1) * 2 by omega]
      have hR2l : R2.toList = A ++ ecs x ++ D ++ r.drop 2 := by
        rw [← room_list A D (ecs x) r 2 hxl hrK, ← hR1l, hR2, show i * 2 = A.length by omega]
      have hR1s : R1.size = (cap * 2) := by
        rw [← Array.length_toList, hR1l, List.length_append, List.length_append, List.length_take, List.length_drop, List.length_append, List.length_append]
        omega
      have hcp1 : Hid (∀ ty dc sc, (Builtin.copy_ #[71, 71] ty #[.slice (some ⟨g, (i + 1) * 2, none⟩) (n - i) dc, .slice (some ⟨g, i * 2, none⟩) (n + 1 - i) sc]).run Try.prog w.drew = .ok (goInt ((n - i : Nat) : Int)) (w.drew.setRow g R1)) := Lib.hid fun ty dc sc => by
        rw [hR1]
        exact run_copy_rows w.drew 71 71 ty 105 g ((i + 1) * 2) (n - i) dc ⟨g, i * 2, none⟩ (n + 1 - i) sc cur 105 D 2 (n - i) Try.underlying71 hsz hgb (by show min _ _ = _; omega) (by rw [hDl]) (hsD _ rfl) (by rw [hDl, hcs]; omega) hDo
      have hB2' : Hid (Blk (w.drew.setRow g R1) g 105 R1) := Lib.hid (Blk.row (W := w.drew) hB R1)
      have hx2' : Hid (Blk (w.drew.setRow g R1) g' tx (ecs x).toArray) := Lib.hid (Blk.rowFar (W := w.drew) hx (Ne.symm hgne) R1)
      have hcp2 : Hid (∀ (W : World), Blk W g 105 R1 → Blk W g' tx (ecs x).toArray → ∀ ty dc, (Builtin.copy_ #[71, 71] ty #[.slice (some ⟨g, i * 2, none⟩) (n + 1 - i) dc, .slice (some ⟨g', 0, none⟩) 1 1]).run Try.prog W = .ok (goInt 1) (W.setRow g R2)) := Lib.hid fun W hW hX ty dc => by
        rw [hR2]
        exact run_copy_rows W 71 71 ty 105 g (i * 2) (n + 1 - i) dc ⟨g', 0, none⟩ 1 1 R1 105 (ecs x) 2 1 Try.underlying71 hsz hW (by show min _ _ = _; omega) (by rw [hxl]) (hX.mem 0 (fun j u h => by simpa using h)) (by rw [hR1s, hxl]; omega) h1x
      have hcp2' := Lib.hid (hcp2.out _ hB2'.out hx2'.out 3 (cap - i))
      have hR2s : Hid (R2.size = (cap * 2)) := Lib.hid (by
        rw [← Array.length_toList, hR2l, List.length_append, List.length_append, List.length_append, List.length_drop]
        omega)
      have hR2t : Hid (R2.toList.take ((n + 1) * 2) = flat ecs (ins V i x)) := Lib.hid (by
        rw [hI.out, hR2l]
        exact List.take_left' (by rw [List.length_append, List.length_append]; omega))
      have hgrow : Hid (w.grownBy ((w.drew.setRow g R1).setRow g R2) (some g)) := Lib.hid ⟨rfl, rfl, rfl, by simp [World.setRow], fun k _ hk => by
        have hk' : k ≠ g := fun e => hk (by rw [e])
        exact (setRow_other _ g k R2 hk').trans (setRow_other _ g k R1 hk')⟩
      clear hov hR1 hR2 hR1l hR2l hB hgb hx hsA hsD
      go_enter Try.func72, Try.ntmps72
      go_wp2_with (simp only [hov'.out])
      go_region_law_o (go_loud (refine step_copy_runI rfl _ _ 71 71 rfl (.slice (some ⟨g, (i + 1) * 2, none⟩) (n - i) (cap - (i + 1))) (.slice (some ⟨g, i * 2, none⟩) (n + 1 - i) (cap - i)) (by simp [Act.eval, Act.put]) (by simp [Act.eval, Act.put]) (hcp1.out _ _ _) ?_))
      go_wp2_with (simp only [hcp2'.out, Result.andThen_ok])
      go_ret
      refine ⟨g, cap, rfl, ⟨?_, .inr ⟨g, cap, R2, rfl, hg0, (hB2'.out).row _, hroom, hcap, hR2s.out, hR2t.out⟩⟩, ?_, .inl rfl⟩
      · rw [hI.out]; simp [hAl, hDl, hxl]; omega
      · exact hgrow.out
    · have hcn : cap = n := by omega
      subst hcn
      have hold : (Builtin.firstCells i0.size i (.slice (some ⟨g, 0, none⟩) i cap)).run Try.prog w.drew = .ok A.toArray w.drew := by
        rw [hz1]
        exact run_firstCells_some w.drew 2 i ⟨g, 0, none⟩ i cap A (by rw [hAl]) hsA
      obtain ⟨G, hG⟩ : ∃ G, grownCap w (cap + 1) cap 105 = G := ⟨_, rfl⟩
      have hGn : cap + 1 ≤ G := by rw [← hG]; exact grownCap_ge w _ _ _
      have hG63 : G ≤ maxLen := by rw [← hG]; exact grownCap_le_maxLen w (cap + 1) cap 105 (by unfold maxLen; omega)
      obtain ⟨y, hy⟩ : ∃ y : Array Value, Builtin.zeroCells (Value.agg #[.string ByteArray.empty, .int .i64 0]).cells (cap + 1 - i) = y := ⟨_, rfl⟩
      obtain ⟨z, hz⟩ : ∃ z : Array Value, Builtin.zeroCells (Value.agg #[.string ByteArray.empty, .int .i64 0]).cells (G - (cap + 1)) = z := ⟨_, rfl⟩
      have hyl : y.size = (cap + 1 - i) * 2 := by rw [← hy]; simp [Builtin.zeroCells, Value.cells]
      have hzl : z.size = (G - (cap + 1)) * 2 := by rw [← hz]; simp [Builtin.zeroCells, Value.cells]
      obtain ⟨R0, hR0⟩ : ∃ R0 : Array Value, A.toArray ++ y ++ z = R0 := ⟨_, rfl⟩
      have hR0l : R0.toList = A ++ y.toList ++ z.toList := by rw [← hR0]; simp
      have hrz : ∀ ty, (Builtin.append_ #[71, 3] ty #[.slice (some ⟨g, 0, none⟩) i cap, .int .i64 ((cap : Int) + 1 - (i : Int))]).run Try.prog w = .ok (.slice (some ⟨w.heap.size, 0, none⟩) (cap + 1) G) (w.drew.alloc (.cells R0 105)) := fun ty => by
        have hik : i + (cap + 1 - i) = cap + 1 := by omega
        have h := Lib.run_append_grow_zeros w 71 3 ty 105 i0 _ .i64 .i64 Try.underlying71 Try.underlying3 hi0 hz0 (some ⟨g, 0, none⟩) i cap A hold (cap + 1 - i) (by omega) (by omega) (by omega) (by omega) (by rw [hz2]; omega) (by rw [hz2, hik]; exact growslice_fits (by omega) (by omega))
        rw [hik, hG, hy, hz, hR0, show ((cap + 1 - i : Nat) : Int) = (cap : Int) + 1 - (i : Int) by omega] at h
        exact h
      obtain ⟨R1, hR1⟩ : ∃ R1 : Array Value, R1 = (R0.toList.take (i * 2) ++ ecs x ++ R0.toList.drop (i * 2 + (ecs x).length)).toArray := ⟨_, rfl⟩
      obtain ⟨R2, hR2⟩ : ∃ R2 : Array Value, R2 = (R1.toList.take ((i + 1) * 2) ++ D ++ R1.toList.drop ((i + 1) * 2 + D.length)).toArray := ⟨_, rfl⟩
      have mixed : Try.prog.follows .mixedOrders = true := by kernel_rfl
      have hz2' : ¬ ((i : Int) = (cap : Int)) := by omega
      have hb0 : (0 : Int) ≤ (i : Int) + 1 := by omega
      have hb1 : (i : Int) + 1 ≤ (cap : Int) + 1 := by omega
      have hb5 : i + 1 ≤ cap + 1 := by omega
      have hb6 : ¬ (cap = i) := by omega
      have hb7 : ¬ (G = i + 1) := by omega
      have hb8 : ¬ (G = i) := by omega
      have htn : ((i : Int) + 1).toNat = i + 1 := by omega
      obtain ⟨N, hN⟩ : ∃ N, w.heap.size = N := ⟨_, rfl⟩
      obtain ⟨W1, hW1⟩ : ∃ W1, w.drew.alloc (.cells R0 105) = W1 := ⟨_, rfl⟩
      have hrzH : Hid ((Builtin.append_ #[71, 3] 71 #[.slice (some ⟨g, 0, none⟩) i cap, .int .i64 ((cap : Int) + 1 - (i : Int))]).run Try.prog w = .ok (.slice (some ⟨N, 0, none⟩) (cap + 1) G) W1) := Lib.hid (by rw [hrz 71, hN, hW1])
      have hBN : Blk W1 N 105 R0 := by rw [← hW1, ← hN]; exact Blk.new w.drew 105 R0
      have hBg : W1.heap[g]? = w.heap[g]? := by rw [← hW1]; exact Below.heap_alloc w.drew _ g hB.lt
      have hBx : Blk W1 g' tx (ecs x).toArray := by rw [← hW1]; exact Blk.alloc (W := w.drew) hx (.cells R0 105)
      have hNg : g ≠ N := by rw [← hN]; exact Nat.ne_of_lt hB.lt
      have hR0s : R0.size = (G * 2) := by
        rw [← Array.length_toList, hR0l]
        simp only [List.length_append, Array.length_toList, hyl, hzl]
        omega
      have hR1l : R1.toList = (A ++ y.toList ++ z.toList).take A.length ++ ecs x ++ (A ++ y.toList ++ z.toList).drop (A.length + (ecs x).length) := by
        rw [hR1, hR0l, show i * 2 = A.length by omega]
      have hR1s : R1.size = (G * 2) := by
        rw [← Array.length_toList, hR1, List.length_append, List.length_append, List.length_take, List.length_drop, Array.length_toList, hR0s]
        omega
      have hR2l : R2.toList = A ++ ecs x ++ D ++ z.toList := by
        rw [← grow_list A D (ecs x) y.toList z.toList 2 hxl (by rw [Array.length_toList, hyl, hDl]; omega), ← hR1l, hR2, show (i + 1) * 2 = A.length + 2 by omega]
      have hcpA : Hid ((Builtin.copy_ #[71, 71] 3 #[.slice (some ⟨N, i * 2, none⟩) (cap + 1 - i) (G - i), .slice (some ⟨g', 0, none⟩) 1 1]).run Try.prog W1 = .ok (goInt 1) (W1.setRow N R1)) := by
        rw [hR1]
        exact Lib.hid (run_copy_rows W1 71 71 3 105 N (i * 2) (cap + 1 - i) (G - i) ⟨g', 0, none⟩ 1 1 R0 105 (ecs x) 2 1 Try.underlying71 hsz hBN (by show min _ _ = _; omega) (by rw [hxl]) (hBx.mem 0 (fun j u h => by simpa using h)) (by rw [hR0s, hxl]; omega) h1x)
      obtain ⟨W2, hW2⟩ : ∃ W2, W1.setRow N R1 = W2 := ⟨_, rfl⟩
      have hBN2 : Blk W2 N 105 R1 := by rw [← hW2]; exact hBN.row R1
      have hBg2 : W2.heap[g]? = w.heap[g]? := by rw [← hW2]; exact (setRow_other W1 N g R1 hNg).trans hBg
      have hcpB : Hid ((Builtin.copy_ #[71, 71] 3 #[.slice (some ⟨N, (i + 1) * 2, none⟩) (cap - i) (G - (i + 1)), .slice (some ⟨g, i * 2, none⟩) (cap - i) (cap - i)]).run Try.prog W2.drew = .ok (goInt ((cap - i : Nat) : Int)) (W2.drew.setRow N R2)) := by
        rw [hR2]
        exact Lib.hid (run_copy_rows W2.drew 71 71 3 105 N ((i + 1) * 2) (cap - i) (G - (i + 1)) ⟨g, i * 2, none⟩ (cap - i) (cap - i) R1 105 D 2 (cap - i) Try.underlying71 hsz hBN2 (by show min _ _ = _; omega) (by rw [hDl]) (hsD W2.drew hBg2) (by rw [hR1s, hDl]; omega) hDo)
      have hin' : i ≤ cap := by omega
      have hcpA2 : Hid ((Builtin.copy_ #[71, 71] 3 #[.slice (some ⟨N, i * 2, none⟩) (cap + 1 - i) (G - i), .slice (some ⟨g', 0, none⟩) 1 1]).run Try.prog W1 = .ok (goInt 1) W2) := by rw [← hW2]; exact hcpA
      obtain ⟨W3, hW3⟩ : ∃ W3, W2.drew.setRow N R2 = W3 := ⟨_, rfl⟩
      have hcpB2 : Hid ((Builtin.copy_ #[71, 71] 3 #[.slice (some ⟨N, (i + 1) * 2, none⟩) (cap - i) (G - (i + 1)), .slice (some ⟨g, i * 2, none⟩) (cap - i) (cap - i)]).run Try.prog W2.drew = .ok (goInt ((cap - i : Nat) : Int)) W3) := by rw [← hW3]; exact hcpB
      have hW3b : Hid (W3.heap[N]? = some (.cells R2 105 (0, 0))) := Lib.hid (by rw [← hW3]; exact Blk.row (W := W2.drew) hBN2 R2)
      have hNs : Hid (w.heap.size ≤ N) := Lib.hid (by rw [hN]; exact Nat.le_refl _)
      have hNn : Hid (n₀ ≤ N) := Lib.hid (by rw [← hN]; exact hn0)
      have hR2s : Hid (R2.size = (G * 2)) := Lib.hid (by
        rw [← Array.length_toList, hR2l]
        simp only [List.length_append, Array.length_toList, hzl, hxl, hAl, hDl]
        omega)
      have hR2t : Hid (R2.toList.take ((cap + 1) * 2) = flat ecs (ins V i x)) := Lib.hid (by
        rw [hI.out, hR2l]
        exact List.take_left' (by rw [List.length_append, List.length_append]; omega))
      have hgrow : Hid (w.grownBy W3 (Value.slice (some ⟨g, 0, none⟩) cap cap).ownBlock) := Lib.hid (by
        rw [← hW3, ← hW2, ← hW1]
        refine ⟨rfl, rfl, rfl, by simp [World.setRow], fun k hk _ => ?_⟩
        have hk' : k ≠ N := by rw [← hN]; exact Nat.ne_of_lt hk
        exact ((setRow_other _ N k R2 hk').trans (setRow_other _ N k R1 hk')).trans (Below.heap_alloc w.drew _ k hk))
      clear hcpA hcpB hW1 hW2 hW3 hN hBN hBg hBx hBN2 hBg2 hR0 hR1 hR2 hR0l hR1l hR2l hB hx hsA hsD hgb hold hy hz hyl hzl hR0s hR1s hG hNg hrz
      go_enter Try.func72, Try.ntmps72
      go_wp2_with (first | (at_builtin; refine Lib.wpList_append_run _ rfl _ _ 71 3 rfl _ _ rfl rfl _ _ hrzH.out ?_) | simp only [hcpA2.out, Result.andThen_ok])
      go_region_law_o (refine step_copy_runI rfl _ _ 71 71 rfl (.slice (some ⟨N, (i + 1) * 2, none⟩) (cap - i) (G - (i + 1))) (.slice (some ⟨g, i * 2, none⟩) (cap - i) (cap - i)) (by simp [Act.eval, Act.put]) (by simp [Act.eval, Act.put]) hcpB2.out ?_)
      go_wp2_with fail
      go_ret
      refine ⟨N, G, rfl, ⟨?_, .inr ⟨N, G, R2, rfl, hNn.out, hW3b.out, hGn, hG63, hR2s.out, hR2t.out⟩⟩, hgrow.out, .inr hNs.out⟩
      rw [hI.out]; simp [hAl, hDl, hxl]; omega
end Go.Proofs.Ytohgecmbkjienaa
