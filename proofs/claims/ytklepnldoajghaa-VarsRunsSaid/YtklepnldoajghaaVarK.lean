/- Environ. Condition: the variables lie as stated. -/
import Derived.Test.YtklepnldoajghaaVarJ
import Derived.Maps.OwnIn
namespace Go.Proofs.Ytklepnldoajghaa
open Go.RowKit Go.Shelf
attribute [local go_sem] Oper.semAt_some

/-- The exported variables that have values, as the program writes them. -/
def envL : Vl → List ByteArray
  | [] => []
  | x :: L => if x.2.ex = true ∧ x.2.st = true then (x.1 ++ ⟨#[61]⟩ ++ x.2.val) :: envL L else envL L
theorem envL_append (a b : Vl) : envL (a ++ b) = envL a ++ envL b := by
  induction a with
  | nil => rfl
  | cons x a ih =>
    rw [List.cons_append, envL, envL, ih]
    split
    · rfl
    · rfl
theorem envL_len (L : Vl) : (envL L).length ≤ L.length := by
  induction L with
  | nil => exact Nat.le_refl _
  | cons x L ih =>
    unfold envL
    split
    · simpa using ih
    · simp; omega
theorem envL_yes {x : ByteArray × Vb} (h : x.2.ex = true) (k : x.2.st = true) (L : Vl) : envL (L ++ [x]) = envL L ++ [x.1 ++ ⟨#[61]⟩ ++ x.2.val] := by
  rw [envL_append]; unfold envL; rw [if_pos ⟨h, k⟩]; unfold envL; rfl
theorem envL_no {x : ByteArray × Vb} (h : ¬ (x.2.ex = true ∧ x.2.st = true)) (L : Vl) : envL (L ++ [x]) = envL L := by
  rw [envL_append]; unfold envL; rw [if_neg h]; unfold envL; simp

set_option maxRecDepth 100000 in
set_option maxHeartbeats 4000000 in
theorem Environ_in (n : Nat) (hn : 5 ≤ n) {n₀ p : Nat} {L : Vl} {A : List ByteArray} {kv vv av : Value} (w : World) (h : VarsAt n₀ w p L A kv vv av) (hz : ∀ x ∈ L, x.1.size + x.2.val.size ≤ 4611686018427387904) :
    CallsIn Fence.wide n Try.prog 27 #[.pointer (some ⟨p, 0, none⟩)] w fun e w' => ∃ v', e = .returned v' ∧ w'.ownsRow w.heap.size 9 1 v' (envL L).length (flat kcs (envL L)) ∧ Below w.heap.size w w' := by
  have h1 : 1 ≤ n := by omega
  obtain ⟨m, hm⟩ : ∃ m, w.heap.size = m := ⟨_, rfl⟩
  have hH := Lib.hid h
  clear h
  refine callsIn_of_wp_marks Try.func27 rfl trivial ?_ rfl
  simp only [Try.ntmps27, List.size_toArray, List.length_cons, List.length_nil, Nat.reduceAdd, Nat.reduceSub, Array.replicate_succ, Array.replicate_zero, List.push_toArray, List.append_toArray, List.nil_append, List.cons_append]
  gi_wp2_with (refine ⟨trivial, ?_⟩; gi_at_call 25; refine (callsIn_wide.2 (All_any _ _)).mono ?_; rintro e w' ⟨rfl, rfl⟩)
  obtain ⟨i0, hi0, hz0, hz1, hz2⟩ := info_parts info9
  obtain ⟨W0, hW0⟩ : ∃ W0, (w.alloc (.cells #[.slice none 0 0] 28)).alloc (.cells #[.pointer (some ⟨p, 0, none⟩)] 24) = W0 := ⟨_, rfl⟩
  have hs0 : W0.heap.size = m + 2 := by rw [← hW0, ← hm]; simp
  have hBm0 : Blk W0 m 28 #[.slice none 0 0] := by rw [← hW0, ← hm]; exact (Blk.new w 28 _).alloc _
  have hBn0 : W0.cell? ⟨m + 1, 0, none⟩ = some (.pointer (some ⟨p, 0, none⟩)) := by
    have h := Blk.new (w.alloc (.cells #[.slice none 0 0] 28)) 24 #[.pointer (some ⟨p, 0, none⟩)]
    rw [World.size_alloc, hW0, hm] at h
    exact h.cell 0
  have hBel : Below m w W0 := by rw [← hW0]; exact ((Below.refl _ w).alloc (by omega) _).alloc (by simp; omega) _
  have hV0 := hH.out.beneath (w1 := W0) (by rw [hm]; exact hBel)
  have hl64 := hH.out.len
  rw [hW0]
  refine range_law rfl h1 (gf := 41) (lb := #[.pointer (some ⟨m + 1, 0, none⟩)]) rfl trivial (enters_of Try.func41 (by kernel_rfl) rfl)
    (All_seq (n - 1) (by omega) (m + 1) n₀ p L kv vv W0 (by omega) hBn0 hV0.ord) (fun _ _ _ _ _ _ _ _ h => h) (Below.refl _ _) (fun _ => rfl)
    (fun T pre X => ∃ v, Blk X m 28 #[v] ∧ X.ownsRow m 9 1 v (envL pre).length (flat kcs (envL pre)) ∧ Below m w X ∧ ∀ k ∈ T, m < k ∧ k < X.heap.size ∧ v.ownBlock ≠ some k)
    (fun _ _ _ _ => False)
    (fun T T' pre A B hs he => by
      obtain ⟨v, hb, hr, hw, hT⟩ := hs
      refine ⟨v, (he.block m hb.lt (fun e => by have := (hT _ e).1; omega)).trans hb, row_keep hr (fun g hg => he.block g (row_lt hr hg) (fun e => (hT g e).2.2 hg)),
        hw.trans ⟨he.os, he.tape, he.output, he.size, fun k hk => he.block k (by have := hb.lt; omega) (fun e => by have := (hT _ e).1; omega)⟩, fun k hk => ?_⟩
      have := he.size
      have := hb.lt
      rcases he.new k hk with e | e
      · have h := hT k e
        exact ⟨h.1, by omega, h.2.2⟩
      · exact ⟨by omega, e.2, fun g => by have := row_lt hr g; omega⟩)
    (fun _ _ _ _ _ _ h _ => h)
    ⟨_, hBm0, World.ownsRow_nil _ _ _ _, hBel, fun k hk => by cases hk⟩
    (fun x X => { tmps := #[.pointer (some ⟨p, 0, none⟩), undef, .slice none 0 0, .pointer (some ⟨m, 0, none⟩), .pointer (some ⟨X.heap.size, 0, none⟩), .pointer (some ⟨p, 0, none⟩), .func (.func 41) #[] #[.pointer (some ⟨m + 1, 0, none⟩)], .agg #[.string x.1, .string x.2.val, .bool x.2.ex, .bool x.2.ro, .bool (!x.2.st)], undef, undef, undef, undef, undef, undef, undef, undef, undef, undef, undef, undef, undef, undef, undef, undef, undef], defers := [] })
    (fun x X => X.alloc (.cells #[.string x.1, .string x.2.val, .bool x.2.ex, .bool x.2.ro, .bool (!x.2.st)] 73))
    (fun x X => (Below.refl _ X).alloc (Nat.le_refl _) _) (fun _ _ _ _ h => h) ?assign ?body ?done ?stop
  case assign =>
    intro l' x X K hK
    gi_wp2
    simpa [encA] using hK
  case body =>
    rintro l' T pre x X X' o hsp hI hl' hX' ⟨v, hb', hr', hw', hT'⟩
    obtain ⟨xk, ⟨xv, xs, xe, xr⟩⟩ := x
    have hzx := hz _ (hsp.subset (List.mem_append_right _ (List.mem_singleton.2 rfl)))
    dsimp only at hzx
    have hs1 : (xk ++ (⟨#[61]⟩ : ByteArray)).size = xk.size + 1 := by rw [ByteArray.size_append]; rfl
    have hz1' : ¬ ((9223372036854775807 : Int) < (xk.size : Int) + 1) := by omega
    have hz2' : ¬ ((9223372036854775807 : Int) < (xk.size : Int) + 1 + (xv.size : Int)) := by omega
    have hlen : (envL pre).length ≤ 64 := by
      have h1 := hsp.length_le
      have h2 := envL_len pre
      rw [List.length_append] at h1
      omega
    obtain ⟨q, hq⟩ : ∃ q, X.heap.size = q := ⟨_, rfl⟩
    have hBx : Blk X' q 73 #[.string xk, .string xv, .bool xe, .bool xr, .bool (!xs)] := by
      rw [hX', ← hq]
      exact (World.putObj_heap_other (Nat.ne_of_gt hl')).trans (Blk.new X 73 _)
    have q0 : X'.cell? ⟨q, 0, none⟩ = some (.string xk) := hBx.cell 0
    have q1 : X'.cell? ⟨q, 1, none⟩ = some (.string xv) := hBx.cell 1
    have q2 : X'.cell? ⟨q, 2, none⟩ = some (.bool xe) := hBx.cell 2
    have q4 : X'.cell? ⟨q, 4, none⟩ = some (.bool (!xs)) := hBx.cell 4
    obtain ⟨a0, c0, rfl⟩ := ownsRow_slice hr'
    have r0 : X'.cell? ⟨m, 0, none⟩ = some (.slice a0 (envL pre).length c0) := hb'.cell 0
    have hmX : m < X'.heap.size := hb'.lt
    dsimp only
    rw [hq]
    clear hI hX' hBx
    by_cases hyes : xe = true ∧ xs = true
    · obtain ⟨rfl, rfl⟩ := hyes
      have hE := Lib.hid (envL_yes (x := (xk, ⟨xv, true, true, xr⟩)) rfl rfl pre)
      have hb'H := Lib.hid hb'
      have hr'H := Lib.hid hr'
      have hw'H := Lib.hid hw'
      have hT'H := Lib.hid hT'
      clear hb' hr' hw' hT'
      gi_wp2_with (gi_at_builtin; refine wpListIn_append_own_at _ rfl _ _ 28 rfl m 9 i0 (.string ByteArray.empty) 1 16 Try.underlying28 hi0 hz0 hz1 hz2 rfl (by decide) (.slice a0 (envL pre).length c0) (envL pre).length (flat kcs (envL pre)) rfl (hr'H.out.alloc _) ⟨X'.heap.size, 0, none⟩ 1 1 [.string (xk ++ ⟨#[61]⟩ ++ xv)] rfl rfl ?_ (by simp [Value.oneCell']) (by unfold maxLen; omega) (by omega) (by simp; omega) ?_; rotate_left; intro v' w1 hown' hgrow _ hat; obtain ⟨a1, c1, rfl⟩ := ownsRow_slice hown'; have hm1 : Blk w1 m 28 #[.slice a0 (envL pre).length c0] := (hgrow.block m (by simp; omega) (row_off hb'H.out (by decide) hr'H.out)).trans (hb'H.out.alloc _); have s0 : w1.cell? ⟨m, 0, none⟩ = some (.slice a0 (envL pre).length c0) := hm1.cell 0; have s1 : w1.frozen? ⟨m, 0, none⟩ = false := hm1.frozen 0; have hownH := Lib.hid hown'; have hgrowH := Lib.hid hgrow; have hatH := Lib.hid hat; have hm1H := Lib.hid hm1; clear hown' hgrow hat hm1)
      have hgrow := hgrowH.out
      have hown := hownH.out
      have hr := hr'H.out
      have hT := hT'H.out
      have hsz : X'.heap.size + 1 ≤ w1.heap.size := by have := hgrow.size; simpa using this
      obtain ⟨w2, hw2⟩ : ∃ w2, w1.setCell ⟨m, 0, none⟩ (.slice a1 ((envL pre).length + 1) c1) = w2 := ⟨_, rfl⟩
      have hs2 : w2.heap.size = w1.heap.size := by rw [← hw2]; simp [World.setCell]
      have hfar : ∀ k, k ≠ m → w2.heap[k]? = w1.heap[k]? := fun k hk => by rw [← hw2]; exact Below.heap_setCell _ _ _ k hk
      have hm2 : Blk w2 m 28 #[.slice a1 ((envL pre).length + 1) c1] := by rw [← hw2]; exact hm1H.out.set_ 0 _
      have hB1 : Below m X' w1 := ⟨hgrow.os, hgrow.tape, hgrow.output, by omega, fun k hk => (hgrow.block k (by simp; omega) (fun e => by have := (hr.lt k e.symm).1; omega)).trans (Below.heap_alloc X' _ k (by omega))⟩
      have hB2 : Below m X' w2 := by rw [← hw2]; exact hB1.setCell (Nat.le_refl m) _
      rw [hw2]
      refine ⟨⟨.slice a1 ((envL pre).length + 1) c1, hm2, ?_, hw'H.out.trans hB2, fun k hk => ?_⟩, ⟨by omega, fun k hk hks => ?_⟩, trivial⟩
      · rw [hE.out, List.length_append, flat_append]
        exact row_keep hown (fun g hg => hfar g (fun e => row_off hm1H.out (by decide) hown (by rw [← e]; exact hg.symm)))
      · obtain ⟨h1, h2, h3⟩ := hT k hk
        refine ⟨h1, by omega, fun e => ?_⟩
        rcases hatH.out with g | g
        · exact h3 (by rw [← g]; exact e)
        · rw [g] at e
          have : X'.heap.size + 1 = k := by simpa using e
          omega
      · obtain ⟨h1, h2, h3⟩ := hT k hk
        exact (hfar k (by omega)).trans ((hgrow.block k (by simp; omega) (fun e => h3 e.symm)).trans (Below.heap_alloc X' _ k hks))
    · have hE := Lib.hid (envL_no (x := (xk, ⟨xv, xs, xe, xr⟩)) hyes pre)
      cases xe <;> cases xs
      all_goals first | exact absurd ⟨rfl, rfl⟩ hyes | skip
      all_goals
        clear hyes
        gi_wp2
        exact ⟨⟨_, hb', by rw [hE.out]; exact hr', hw', hT'⟩, ⟨Nat.le_refl _, fun _ _ _ => rfl⟩, trivial⟩
  case done =>
    rintro D T ys X hD hDT rfl ⟨v, hb, hr, hw, hT⟩ hK
    obtain ⟨a0, c0, rfl⟩ := ownsRow_slice hr
    have r0 : X.cell? ⟨m, 0, none⟩ = some (.slice a0 (envL ys).length c0) := hb.cell 0
    gi_wp2
    refine ⟨by simp, .inl ⟨_, _, rfl, run_takeDeferred hK, ?_⟩⟩
    have hmD : m < D := (hT D hDT).1
    refine ⟨_, results_tmp rfl _ _ _, _, rfl, ?_, ?_⟩
    · rw [hm]
      exact row_keep hr (fun g hg => World.putObj_heap_other (fun e => (hT D hDT).2.2 (by rw [← e]; exact hg)))
    · rw [hm]
      exact hw.trans ⟨rfl, rfl, rfl, by simp [World.putObj], fun k hk => World.putObj_heap_other (by omega)⟩
  case stop =>
    rintro D c T pre X hD hDT hpre h hK
    exact h.elim

theorem Environ_any {n₀ p : Nat} {L : Vl} {A : List ByteArray} {kv vv av : Value} (w : World) (h : VarsAt n₀ w p L A kv vv av) (hz : ∀ x ∈ L, x.1.size + x.2.val.size ≤ 4611686018427387904) :
    Calls Try.prog 27 #[.pointer (some ⟨p, 0, none⟩)] w fun e w' => ∃ v', e = .returned v' ∧ w'.ownsRow w.heap.size 9 1 v' (envL L).length (flat kcs (envL L)) ∧ Below w.heap.size w w' :=
  callsIn_wide.1 (Environ_in 5 (Nat.le_refl _) w h hz)
end Go.Proofs.Ytklepnldoajghaa
