/- A file's bytes: resize. Condition: the inode lies as stated. -/
import Derived.Test.YtohgecmbkjienaaFlF
namespace Go.Proofs.Ytohgecmbkjienaa
open Go.RowKit Go.PlainAid
attribute [local go_sem] Oper.semAt_some

theorem step_append_runI {P : Program} {ops : Array Oper} {o : Oper} {a : Act} {w : World} {K : Act → World → Prop} {Q : Exit → Act → World → Prop} {E : Prop}
    (hg : o.guard = none) (d x : Operand) (dT sT : TypeId) (hop : o.op = Op.call { callee := Callee.builtin Builtin.append, args := #[d, x], argTypes := #[dT, sT] })
    (v u : Value) (hd : a.eval d = v) (hx : a.eval x = u) {v' : Value} {w' : World} (hr : (Builtin.append_ #[dT, sT] o.type #[v, u]).run P w = .ok v' w') (hK : K (a.put o.dst v') w') :
    if Region.wanted o (yielded ops a.tmps) = true then Oper.wp P o a w K Q else E := by
  have hw : Region.wanted o (yielded ops a.tmps) = true := by simp [Region.wanted, hg]
  rw [if_pos hw]
  unfold Oper.wp
  simp [execOp, hop, resolve, invoke, builtin, hd, hx, hr, Result.andThen]
  exact hK

theorem bytes_app (a b : List UInt8) : Lib.byteCells (a ++ b) = Lib.byteCells a ++ Lib.byteCells b := List.map_append ..
theorem bytes_take (a : List UInt8) (n : Nat) : (Lib.byteCells a).take n = Lib.byteCells (a.take n) := List.map_take.symm
theorem bytes_one (a : List UInt8) : ∀ u ∈ Lib.byteCells a, u.oneCell' = true := fun u hu => by
  obtain ⟨o, _, rfl⟩ := List.mem_map.1 hu
  rfl
theorem zero_cells (n : Nat) : Builtin.zeroCells (Value.int .u8 0).cells n = (Lib.byteCells (List.replicate n 0)).toArray := by
  apply Array.ext'
  refine Eq.trans ?_ (show List.replicate n (Value.int .u8 0) = (Lib.byteCells (List.replicate n 0)).toArray.toList by simp [Lib.byteCells, List.map_replicate])
  refine List.eq_replicate_iff.2 ⟨by simp [Builtin.zeroCells, Value.cells], fun b hb => ?_⟩
  simp only [Builtin.zeroCells, Value.cells, Array.toList_map, List.mem_map] at hb
  obtain ⟨i, _, rfl⟩ := hb
  simp [Nat.mod_one]
theorem infoB : (Try.prog.info? 5).map (fun i => (i.zero, i.size, i.bytes)) = some (some (.int .u8 0), 1, 1) := by kernel_rfl
theorem row_src {w : World} {b : Nat} {e : TypeId} {n : Nat} {v : Value} {xs : List Value} (h : w.ownsRow b e 1 v n xs) : (Builtin.firstCells 1 n v).run Try.prog w = .ok xs.toArray w := by
  rcases h.2 with ⟨rfl, rfl⟩ | ⟨g, cap, cur, rfl, _, hb, _, _, _, htk⟩
  · have hx : xs = [] := by have := h.1; simpa using this
    subst hx
    simp [Builtin.firstCells]
  · refine run_firstCells_some w 1 n ⟨g, 0, none⟩ n cap xs (by have := h.1; omega) (fun j u hj => ?_)
    rw [Addr.add_lit, Nat.zero_add]
    have hl : j < n * 1 := by rw [← h.1]; exact (List.getElem?_eq_some_iff.1 hj).1
    rw [cell_of_row w g j cur e (0, 0) hb]
    rw [← htk, List.getElem?_take_of_lt hl, Array.getElem?_toList] at hj
    exact hj
theorem run_zeros (w : World) (ty : TypeId) (v : Value) (n : Nat) (l : List UInt8) (hl : l.length = n) (hown : w.ownsRow 0 5 1 v n (Lib.byteCells l)) (k : Nat) (h0 : 0 < k) (hn : n + k ≤ 1000000) :
    ∃ a' c' w', (Builtin.append_ #[70, 3] ty #[v, .int .i64 k]).run Try.prog w = .ok (.slice a' (n + k) c') w' ∧ w'.ownsRow 0 5 1 (.slice a' (n + k) c') (n + k) (Lib.byteCells (l ++ List.replicate k 0)) ∧ w.grownBy w' v.ownBlock ∧
      (∀ g, (Value.slice a' (n + k) c').ownBlock = some g → v.ownBlock = some g ∨ w.heap.size ≤ g) := by
  obtain ⟨i0, hi0, hz0, hz1, hz2⟩ := info_parts infoB
  have hlen : (Lib.byteCells (l ++ List.replicate k 0)).length = (n + k) * 1 := by rw [Lib.byteCells_length]; simp [hl]
  by_cases hroom : ∃ a c, v = .slice a n c ∧ n + k ≤ c
  · obtain ⟨a, c, rfl, hc⟩ := hroom
    rcases hown.2 with ⟨e, _⟩ | ⟨g, cap, cur, e, h0', hb, hn', hcap, hcs, htk⟩
    · simp at e; omega
    · obtain ⟨rfl, rfl⟩ : a = some ⟨g, 0, none⟩ ∧ c = cap := by simpa using e
      have hst := run_storeCells_at Try.prog g n 5 (Lib.byteCells (List.replicate k 0)) 0 cur w hb (by rw [Lib.byteCells_length, List.length_replicate]; omega) (bytes_one _)
      have hw1 : IntKind.i64.wrap (k : Int) = k := by rw [IntKind.wrap_i64]; omega
      have hneg : ¬ ((k : Int) < 0) := by omega
      have h48 : ¬ (281474976710656 < (k : Int)) := by omega
      obtain ⟨R, hR⟩ : ∃ R, (cur.toList.take (n + 0) ++ Lib.byteCells (List.replicate k 0) ++ cur.toList.drop (n + 0 + (Lib.byteCells (List.replicate k 0)).length)).toArray = R := ⟨_, rfl⟩
      rw [hR] at hst
      refine ⟨some ⟨g, 0, none⟩, c, w.setRow g R, ?_, ⟨hlen, .inr ⟨g, c, R, rfl, Nat.zero_le _, setRow_heap w g cur R 5 _ hb, by omega, hcap, ?_, ?_⟩⟩, ⟨rfl, rfl, rfl, by simp [World.setRow], fun i _ hi => setRow_other w g i R (fun e => hi (by rw [e]; rfl))⟩, fun g' hg' => .inl hg'⟩
      · have hkk : k ≠ 0 := by omega
        simp [Builtin.append_, run_underlying Try.underlying70, run_underlying Try.underlying3, sizeOf, typeInfo, hi0, hz1, hz2, zeroValue, hz0, hw1, hneg, h48, hc, zero_cells, Addr.add_lit, hst, asInt, asIntOf, hkk]
      · rw [← hR]
        simp [Lib.byteCells_length]
        omega
      · rw [bytes_app, ← hR]
        have e1 : (cur.toList.take (n + 0)).length = n := by rw [List.length_take, Array.length_toList]; omega
        have e2 : cur.toList.take (n + 0) = Lib.byteCells l := by rw [← htk, Nat.mul_one, Nat.add_zero]
        show ((cur.toList.take (n + 0) ++ Lib.byteCells (List.replicate k 0) ++ cur.toList.drop _).toArray.toList).take ((n + k) * 1) = _
        rw [e2]
        refine List.take_left' ?_
        rw [List.length_append, Lib.byteCells_length, Lib.byteCells_length, List.length_replicate, hl]
        omega
  · obtain ⟨a, c, rfl⟩ := ownsRow_slice hown
    have hc : c < n + k := by
      rcases Nat.lt_or_ge c (n + k) with h | h
      · exact h
      · exact absurd ⟨a, c, rfl, h⟩ hroom
    have hcn : n ≤ c := by
      rcases hown.2 with ⟨e, e2⟩ | ⟨g, cap, cur, e, _, _, hn', _⟩
      · omega
      · have : c = cap := by simp at e; exact e.2
        omega
    obtain ⟨G, hG⟩ : ∃ G, grownCap w (n + k) c 5 = G := ⟨_, rfl⟩
    have hGn : n + k ≤ G := by rw [← hG]; exact grownCap_ge w _ _ _
    have hG63 : G ≤ maxLen := by rw [← hG]; exact grownCap_le_maxLen w (n + k) c 5 (by unfold maxLen; omega)
    have hr := Lib.run_append_grow_zeros (P := Try.prog) w 70 3 ty 5 i0 _ .i64 .i64 Try.underlying70 Try.underlying3 hi0 hz0 a n c (Lib.byteCells l) (by rw [hz1]; exact row_src (w := w.drew) hown) k h0 (by omega) hc (by omega) (by rw [hz2]; omega) (by have := nextslicecap_le hc; rw [hz2]; omega)
    rw [hG, zero_cells, zero_cells] at hr
    refine ⟨_, _, _, hr, ⟨hlen, .inr ⟨w.heap.size, G, _, rfl, Nat.zero_le _, World.alloc_heap_new w.drew _, by omega, hG63, ?_, ?_⟩⟩, ⟨rfl, rfl, rfl, by simp, fun i hi _ => Below.heap_alloc w.drew _ i hi⟩, fun g hg => .inr (Nat.le_of_eq (by simpa [Value.ownBlock] using hg))⟩
    · simp [Lib.byteCells_length, hl]
      omega
    · simp only [List.append_toArray]
      rw [bytes_app]
      refine List.take_left' ?_
      rw [List.length_append, Lib.byteCells_length, Lib.byteCells_length, List.length_replicate, hl]
      omega
theorem row_cut {w : World} {b : Nat} {e : TypeId} {a : Option Addr} {n c m : Nat} {xs : List Value} (h : w.ownsRow b e 1 (.slice a n c) n xs) (hm : m ≤ n) : w.ownsRow b e 1 (.slice a m c) m (xs.take m) := by
  refine ⟨by rw [List.length_take, h.1]; omega, ?_⟩
  rcases h.2 with ⟨e1, e2⟩ | ⟨g, cap, cur, e1, e2, e3, e4, e5, e6, e7⟩
  · obtain ⟨rfl, rfl, rfl⟩ : a = none ∧ n = 0 ∧ c = 0 := by simpa using e1
    obtain rfl : m = 0 := by omega
    exact .inl ⟨rfl, rfl⟩
  · obtain ⟨rfl, rfl⟩ : a = some ⟨g, 0, none⟩ ∧ c = cap := by simpa using e1
    refine .inr ⟨g, c, cur, rfl, e2, e3, by omega, e5, e6, ?_⟩
    rw [← e7, List.take_take]
    congr 1
    omega

section
variable {w : World} {S : Nat → Prop} {q : Nat} {I : Ino} {dv ev : Value}
theorem grown_refl (w : World) (r : Option Nat) : w.grownBy w r := ⟨rfl, rfl, rfl, Nat.le_refl _, fun _ _ _ => rfl⟩
set_option maxHeartbeats 1000000 in
theorem resize_any (h : InoAt w S q I dv ev) (hf : Fine I) (n : Nat) (hn : n ≤ 200000) : Calls Try.prog 46 #[.pointer (some ⟨q, 0, none⟩), .int .i64 n] w fun e w' => e = .returned (.tuple #[]) ∧ InoP S w w' q { I with data := resM I.data n } := by
  obtain ⟨a, c, rfl⟩ := ownsRow_slice h.dat
  obtain ⟨m, hm⟩ : ∃ m, I.data.length = m := ⟨_, rfl⟩
  have c4 : w.cell? ⟨q, 4, none⟩ = some (.slice a m c) := by rw [← hm]; exact h.blk.cell 4
  have f4 : w.frozen? ⟨q, 4, none⟩ = false := h.blk.frozen 4
  have hdl := hf.dl
  have hd := h.dat
  rw [hm] at hdl hd
  by_cases hnm : n ≤ m
  · have hrM : Hid (resM I.data n = I.data.take n) := Lib.hid (by unfold resM; rw [hm, if_pos hnm])
    rw [hrM.out]
    have hP := Lib.hid (fun (v' : Value) (hv : v' = .slice a n c) => h.newDat (Below.refl _ _) (grown_refl w _) (v' := v') (l := I.data.take n) (by rw [hv, ← bytes_take]; have h9 := row_cut hd hnm; rw [List.length_take, hm, Nat.min_eq_left hnm]; exact h9) (fun g hg => .inl (by rw [hv] at hg; cases a <;> exact hg)))
    have hcap : m ≤ c := by
      rcases hd.2 with ⟨e, e2⟩ | ⟨g, cap, cur, e, _, _, hn', _⟩
      · omega
      · have : c = cap := by simp at e; exact e.2
        omega
    have hac : a = none → c = 0 := fun e => by
      rcases hd.2 with ⟨e2, _⟩ | ⟨g, cap, cur, e2, _⟩
      · simp [e] at e2; exact e2.2
      · rw [e] at e2; simp at e2
    clear h hf hd hm
    go_enter Try.func46, Try.ntmps46
    go_wp2
    refine bodyPost_ret (results_none rfl _ _ _) rfl ?_
    exact ⟨rfl, hP.out _ rfl⟩
  · obtain ⟨k, hk⟩ : ∃ k, n = m + k := ⟨n - m, by omega⟩
    subst hk
    have hk0 : 0 < k := by omega
    have hrM : Hid (resM I.data (m + k) = I.data ++ List.replicate k 0) := Lib.hid (by unfold resM; rw [hm, if_neg hnm, show m + k - m = k by omega])
    rw [hrM.out]
    have hrun := run_zeros w.drew 70 (.slice a m c) m I.data hm hd k hk0 (by omega)
    obtain ⟨a2, c2, w2, hr, hown, hgr, hat⟩ := hrun
    have hgr' : w.grownBy w2 (Value.slice a m c).ownBlock := ⟨hgr.os, hgr.tape, hgr.output, hgr.size, hgr.block⟩
    have hP := Lib.hid (h.newDat (Below.refl _ _) (by rw [hm]; exact hgr') (v' := .slice a2 (m + k) c2) (l := I.data ++ List.replicate k 0) (by rw [List.length_append, List.length_replicate, hm]; exact hown) (fun g hg => by rw [hm]; exact hat g hg))
    have hB2 := blk_grown h.blk hgr' (by have h9 := row_off h.blk ends_ne.2.1 h.dat; rw [hm] at h9; exact h9)
    have hB2H := Lib.hid hB2
    have hrH := Lib.hid hr
    have hmH := Lib.hid hm
    have hw1 : Hid (IntKind.i64.wrap (k : Int) = k) := Lib.hid (by rw [IntKind.wrap_i64]; omega)
    have hmk : (m : Int) + (k : Int) - (m : Int) = k := by omega
    have mixed : Try.prog.follows .mixedOrders = true := by kernel_rfl
    have hlt : ¬ ((m : Int) + (k : Int) ≤ (m : Int)) := by omega
    have hlt2 : ¬ k = 0 := by omega
    clear h hf hd hm hr hown hgr hgr' hat hB2
    go_enter Try.func46, Try.ntmps46
    go_wp2_with fail
    go_region_law_o (go_loud (refine step_append_runI rfl _ _ 70 3 rfl (.slice a m c) (.int .i64 k) (by rfl) (by simp [Act.eval, Act.put, hw1.out]) hrH.out ?_; have e4 : w2.cell? ⟨q, 4, none⟩ = some (.slice a m c) := (by rw [← hmH.out]; exact hB2H.out.cell 4); have f4' : w2.frozen? ⟨q, 4, none⟩ = false := hB2H.out.frozen 4))
    all_goals
      go_wp2
      go_end0
      exact ⟨rfl, hP.out⟩
end
end Go.Proofs.Ytohgecmbkjienaa
