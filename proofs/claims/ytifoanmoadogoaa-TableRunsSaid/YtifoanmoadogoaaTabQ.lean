/- The law TableRuns' 'same': true where both have the same. Condition: both lie as stated. -/
import Derived.Test.YtifoanmoadogoaaTabP
import Derived.Test.YtifoanmoadogoaaTabM
import Derived.Sort.QuietIn
import Derived.Deep.RegionHeld3
namespace Go.Proofs.Ytifoanmoadogoaa
section
def noDefer (l : List Oper) : Bool := l.all fun o => match o.op with | .defer _ => false | _ => true
theorem noDefer_spec {l : List Oper} (h : noDefer l = true) {o : Oper} (ho : o ∈ l) (c : Call) : o.op ≠ .defer c := by
  intro e
  have := List.all_eq_true.1 h o ho
  rw [e] at this
  cases this
theorem oper_round {F : Fence} {n r : Nat} {P : Program} {o : Oper} {a : Act} {w : World} {K : Act → World → Prop} {Q : Exit → Act → World → Prop} (hd : ∀ c, o.op ≠ .defer c)
    (h : o.wpIn F n P a w K Q) : o.wpIn (F.inRound r) n P a w K Q := by
  unfold Oper.wpIn at *
  refine ⟨h.1, ?_⟩
  have h2 := h.2
  rw [Oper.semAt_eq _ _ _ hd] at h2 ⊢
  exact h2
theorem any_round {F : Fence} {n r : Nat} {P : Program} {md : Region.Mode} {l : List Oper} {Q : Exit → Act → World → Prop} (hd : noDefer l = true) :
    ∀ (fuel : Nat) (listed : Array Bool) (a : Act) (w : World), wpAnyIn F n P md l.toArray Q fuel listed a w → wpAnyIn (F.inRound r) n P md l.toArray Q fuel listed a w := by
  intro fuel
  induction fuel with
  | zero => exact fun _ _ _ h => h
  | succ fuel ih =>
    intro listed a w h
    refine ⟨h.1, fun i hi => ?_⟩
    have h2 := h.2 i hi
    unfold wpOpIn at h2 ⊢
    cases ho : l.toArray[i]? with
    | none => rw [ho] at h2; exact ih _ _ _ h2
    | some o =>
      rw [ho] at h2
      dsimp only at h2 ⊢
      split
      · rename_i g
        rw [if_pos g] at h2
        exact oper_round (noDefer_spec hd (by rw [List.getElem?_toArray] at ho; exact List.mem_of_getElem? ho)) (Oper.wpIn_mono (fun a' w' h' => ih _ _ _ h') h2)
      · rename_i g
        rw [if_neg g] at h2
        exact ⟨h2.1, ih _ _ _ h2.2⟩
theorem wpIn_region_quiet_round {F : Fence} {n r : Nat} {P : Program} {id : Nat} {Q : Exit → Act → World → Prop} {a : Act} {w : World} {l : List Oper} (hro : F.round = none) (hm : P.follows .mixedOrders = true) (hB : Region.lexB .any l.toArray = true) (hd : noDefer l = true)
    (h : wpQuietIn F n P l.toArray (fun w' => ∃ n, w' = w.drewN n) (fun a' => ∀ w', (∃ n, w' = w.drewN n) → Q .normal a' w') l a) : (Code.region id l.toArray true).wpIn (F.inRound r) n P Q a w := by
  simp only [Region.lexB, Bool.and_eq_true] at hB
  refine wpIn_region_any hm (any_round hd _ _ _ _ (wpAnyIn_of_quiet (Q := fun a' => ∀ w', (∃ n, w' = w.drewN n) → Q .normal a' w') hro (fun _ w' hw' h => h w' hw') _ _ _ _ ⟨1, rfl⟩ ?_))
  have := wpAnyQIn_lex (F := F) (n := n) (C := fun w' => ∃ n, w' = w.drewN n) (md := .any) hB.1 l 0 (Array.replicate l.toArray.size false) a (by simp) (by simpa using hB.2) h
  simpa using this
end
open Go.RowKit Go.Shelf
attribute [local go_sem] Oper.semAt_some

def lastP (pre : List (Fin 32 × Int)) : Int := match pre.getLast? with | none => -1 | some x => (x.1.1 : Nat)
theorem lastP_snoc (pre : List (Fin 32 × Int)) (x : Fin 32 × Int) : lastP (pre ++ [x]) = (x.1.1 : Nat) := by
  unfold lastP
  rw [List.getLast?_concat]
theorem lastP_lt {f : Nat → Sl} {k : Nat} (hk : k ≤ 32) : lastP (upto f k) < (k : Int) := by
  unfold lastP
  cases h : (upto f k).getLast? with
  | none => show (-1 : Int) < k; omega
  | some x =>
    have := (mem_upto hk).1 (List.mem_of_getLast? h)
    show ((x.1.1 : Nat) : Int) < k
    omega
theorem lastP_ge (pre : List (Fin 32 × Int)) : -1 ≤ lastP pre := by
  unfold lastP
  split
  · exact Int.le_refl _
  · omega

set_option maxRecDepth 100000 in
set_option maxHeartbeats 8000000 in
theorem same_in {T R : Nat} {f : Nat → Sl} (w : World) (hT : TabAt w T f) (hR : RTb w R f) :
    CallsIn Fence.wide 6 Try.prog 39 #[.pointer (some ⟨T, 0, none⟩), .pointer (some ⟨R, 0, none⟩)] w fun e w' => e = .returned (.bool true) ∧ Below w.heap.size w w' := by
  obtain ⟨m, hm⟩ : ∃ m, w.heap.size = m := ⟨_, rfl⟩
  have hTm : T < m := by rw [← hm]; exact hT.lt
  have hRm : R < m := by rw [← hm]; exact hR.lt
  have hTH := Lib.hid hT
  have hRH := Lib.hid hR
  have hmH := Lib.hid hm
  rw [hm]
  obtain ⟨W0, hW0⟩ : ∃ W0, (((((w.alloc (.cells #[.pointer (some ⟨T, 0, none⟩)] 54)).alloc (.cells #[.pointer (some ⟨R, 0, none⟩)] 56)).alloc (.cells #[.bool false] 4)).alloc (.cells #[.int .i64 0] 3)).alloc (.cells #[.int .i64 (-1)] 3)).alloc (.cells #[.pointer (some ⟨T, 0, none⟩)] 54) = W0 := ⟨_, rfl⟩
  have hW0H := Lib.hid hW0
  clear hT hR hm hW0
  refine callsIn_of_wp_marks Try.func39 rfl trivial ?_ rfl
  simp only [Try.ntmps39, List.size_toArray, List.length_cons, List.length_nil, Nat.reduceAdd, Nat.reduceSub, Array.replicate_succ, Array.replicate_zero, List.push_toArray, List.append_toArray, List.nil_append, List.cons_append]
  gi_wp2_with (refine ⟨trivial, ?_⟩; gi_at_call 40; refine (callsIn_wide.2 (all_any _ _)).mono ?_; rintro e w' ⟨rfl, rfl⟩)
  have hmo := hmH.out
  have hW := hW0H.out
  have hs0 : W0.heap.size = m + 6 := by rw [← hW, ← hmo]; simp
  have hBel : Below m w W0 := by
    rw [← hW]
    exact ((((((Below.refl _ w).alloc (by omega) _).alloc (by simp; omega) _).alloc (by simp; omega) _).alloc (by simp; omega) _).alloc (by simp; omega) _).alloc (by simp; omega) _
  have g0 : Blk W0 m 54 #[.pointer (some ⟨T, 0, none⟩)] := by rw [← hW, ← hmo]; exact (((((Blk.new w 54 _).alloc _).alloc _).alloc _).alloc _).alloc _
  have g1 : Blk W0 (m + 1) 56 #[.pointer (some ⟨R, 0, none⟩)] := by
    have h := ((((Blk.new (w.alloc (.cells #[.pointer (some ⟨T, 0, none⟩)] 54)) 56 #[.pointer (some ⟨R, 0, none⟩)]).alloc (.cells #[.bool false] 4)).alloc (.cells #[.int .i64 0] 3)).alloc (.cells #[.int .i64 (-1)] 3)).alloc (.cells #[.pointer (some ⟨T, 0, none⟩)] 54)
    rw [hW] at h
    simpa [hmo] using h
  have g2 : Blk W0 (m + 2) 4 #[.bool false] := by
    have h := (((Blk.new ((w.alloc (.cells #[.pointer (some ⟨T, 0, none⟩)] 54)).alloc (.cells #[.pointer (some ⟨R, 0, none⟩)] 56)) 4 #[.bool false]).alloc (.cells #[.int .i64 0] 3)).alloc (.cells #[.int .i64 (-1)] 3)).alloc (.cells #[.pointer (some ⟨T, 0, none⟩)] 54)
    rw [hW] at h
    simpa [hmo] using h
  have g3 : Blk W0 (m + 3) 3 #[.int .i64 0] := by
    have h := ((Blk.new (((w.alloc (.cells #[.pointer (some ⟨T, 0, none⟩)] 54)).alloc (.cells #[.pointer (some ⟨R, 0, none⟩)] 56)).alloc (.cells #[.bool false] 4)) 3 #[.int .i64 0]).alloc (.cells #[.int .i64 (-1)] 3)).alloc (.cells #[.pointer (some ⟨T, 0, none⟩)] 54)
    rw [hW] at h
    simpa [hmo] using h
  have g4 : Blk W0 (m + 4) 3 #[.int .i64 (-1)] := by
    have h := (Blk.new ((((w.alloc (.cells #[.pointer (some ⟨T, 0, none⟩)] 54)).alloc (.cells #[.pointer (some ⟨R, 0, none⟩)] 56)).alloc (.cells #[.bool false] 4)).alloc (.cells #[.int .i64 0] 3)) 3 #[.int .i64 (-1)]).alloc (.cells #[.pointer (some ⟨T, 0, none⟩)] 54)
    rw [hW] at h
    simpa [hmo] using h
  have g5 : Blk W0 (m + 5) 54 #[.pointer (some ⟨T, 0, none⟩)] := by
    have h := Blk.new (((((w.alloc (.cells #[.pointer (some ⟨T, 0, none⟩)] 54)).alloc (.cells #[.pointer (some ⟨R, 0, none⟩)] 56)).alloc (.cells #[.bool false] 4)).alloc (.cells #[.int .i64 0] 3)).alloc (.cells #[.int .i64 (-1)] 3)) 54 #[.pointer (some ⟨T, 0, none⟩)]
    rw [hW] at h
    simpa [hmo] using h
  have hT0 : TabAt W0 T f := hTH.out.keep (hBel.block T hTm)
  have hmo2 : m + 6 ≤ W0.heap.size := by omega
  rw [hW, hmo]
  clear hmo hW
  refine range_law rfl (by omega) (gf := 53) (lb := #[.pointer (some ⟨m + 5, 0, none⟩)]) rfl trivial (enters_of Try.func53 (by kernel_rfl) rfl)
    (all_x (6 - 1) (by omega) (m + 5) T f W0 (by omega) (g5.cell 0) hT0) (keepX_b (by omega) (by omega)) (Below.refl _ _) (fun _ => rfl)
    (fun U pre X => Blk X m 54 #[.pointer (some ⟨T, 0, none⟩)] ∧ Blk X (m + 1) 56 #[.pointer (some ⟨R, 0, none⟩)] ∧ Blk X (m + 2) 4 #[.bool false] ∧ Blk X (m + 3) 3 #[.int .i64 (pre.length : Nat)] ∧ Blk X (m + 4) 3 #[.int .i64 (lastP pre)] ∧ Below m w X ∧ m + 6 ≤ X.heap.size ∧ ∀ k ∈ U, m + 5 < k ∧ k < X.heap.size)
    (fun _ _ _ _ => False)
    (fun U U' pre A B hs he => by
      obtain ⟨b0, b1, b2, b3, b4, hw, hz5, hU⟩ := hs
      have hs2 := he.size
      have hb : ∀ k, k ≤ m + 5 → B.heap[k]? = A.heap[k]? := fun k hk => he.block k (by omega) (fun e => by have := (hU _ e).1; omega)
      refine ⟨(hb m (by omega)).trans b0, (hb _ (by omega)).trans b1, (hb _ (by omega)).trans b2, (hb _ (by omega)).trans b3, (hb _ (by omega)).trans b4,
        hw.trans ⟨he.os, he.tape, he.output, he.size, fun k hk => hb k (by omega)⟩, by omega, fun k hk => ?_⟩
      rcases he.new k hk with e | e
      · have h := hU k e
        exact ⟨h.1, by omega⟩
      · exact ⟨by omega, e.2⟩)
    (fun _ _ _ _ _ _ h _ => h)
    ⟨g0, g1, g2, g3, g4, hBel, hmo2, fun k hk => by cases hk⟩
    ?_ (fun _ X => X) (fun x X => Below.refl _ X) (fun _ _ _ _ h => h) ?assign ?body ?done ?stop
  case assign =>
    intro l' x X K hK
    gi_wp2
    exact hK
  case body =>
    rintro l' U pre x X W' o hsp - hl' hX' ⟨b0, b1, b2, b3, b4, hw, hz5, hU⟩
    obtain ⟨⟨k, hk⟩, xv⟩ := x
    have hpre := pre_upto (Nat.le_refl 32) hsp
    have hmem := (mem_upto (Nat.le_refl 32)).1 (hsp.subset (List.mem_append_right _ (List.mem_singleton.2 rfl)))
    dsimp only at hpre hmem
    have hlast : lastP pre < (k : Int) := by rw [hpre]; exact lastP_lt (by omega)
    have hlen : pre.length ≤ 32 := Nat.le_trans ((List.prefix_append _ _).trans hsp).length_le (upto_len f 32)
    have hRb := hRH.out.keep (hw.block R hRm)
    have hTb := hTH.out.keep (hw.block T hTm)
    clear hX'
    dsimp only
    have hgetH := Lib.hid (rget_in k hk W' hRb)
    rw [show (f k).val = xv by unfold Sl.val; rw [hmem.2.1, if_pos rfl]; exact hmem.2.2.symm, show (f k).err = 0 by unfold Sl.err; rw [hmem.2.1, if_pos rfl]] at hgetH
    have hmkH := Lib.hid (fun q => marked_in k hk (W'.drewN q) (hTb.keep rfl))
    obtain ⟨mr, hmr⟩ : ∃ mr, (f k).mr = mr := ⟨_, rfl⟩
    rw [hmem.2.1, hmr] at hmkH
    simp only [Bool.true_and] at hmkH
    have d2 := hRb.c2 k hk
    rw [hmr] at d2
    have n0 : W'.cell? ⟨m, 0, none⟩ = some (.pointer (some ⟨T, 0, none⟩)) := b0.cell 0
    have n1 : W'.cell? ⟨m + 1, 0, none⟩ = some (.pointer (some ⟨R, 0, none⟩)) := b1.cell 0
    obtain ⟨la, hla⟩ : ∃ la, lastP pre = la := ⟨_, rfl⟩
    obtain ⟨np, hnp⟩ : ∃ np, pre.length = np := ⟨_, rfl⟩
    have hls := Lib.hid (lastP_snoc pre ((⟨k, hk⟩, xv) : Fin 32 × Int))
    rw [hla] at b4 hlast
    rw [hnp] at b3 hlen
    have n3 : W'.cell? ⟨m + 3, 0, none⟩ = some (.int .i64 np) := b3.cell 0
    have n4 : W'.cell? ⟨m + 4, 0, none⟩ = some (.int .i64 la) := b4.cell 0
    have f3 := b3.frozen 0
    have f4 := b4.frozen 0
    have hk' : (k : Int) < 32 := by omega
    have b0H := Lib.hid b0
    have b1H := Lib.hid b1
    have b2H := Lib.hid b2
    have b3H := Lib.hid b3
    have b4H := Lib.hid b4
    have hnpH := Lib.hid hnp
    clear hpre hmem hRb hTb hmr hla hnp b0 b1 b2 b3 b4
    gi_wp2
    refine ⟨trivial, ?_⟩
    refine (CallsIn.inRound l' (callsIn_wide.2 hgetH.out)).mono ?_
    rintro e w5 ⟨rfl, rfl⟩
    gi_wp2
    have hwf : ∀ f, Fence.wide.fn f := fun _ => trivial
    refine wpIn_region_quiet_round rfl (by kernel_rfl) (by kernel_rfl) (by kernel_rfl) ?_
    iterate 13 (gi_big_quiet_step (fail))
    rw [show decide ((k : Int) ≤ la) = false from decide_eq_false (by omega)]
    repeat (gi_big_quiet_step ((gi_at_call 41; exact CallsIn.quiet_of_same (callsIn_wide.2 (hmkH.out _)))))
    refine wpQuietIn_nil ?_
    rintro _ ⟨nq, rfl⟩
    gi_wp2
    have hold : ∀ i, i ≠ m + 3 → i ≠ m + 4 → (((w5.drewN nq).setCell ⟨m + 4, 0, none⟩ (.int .i64 k)).setCell ⟨m + 3, 0, none⟩ (.int .i64 (↑np + 1))).heap[i]? = w5.heap[i]? := fun i h1 h2 => (Below.heap_setCell _ _ _ i h1).trans (Below.heap_setCell _ _ _ i h2)
    have hq : Blk (w5.drewN nq) (m + 4) 3 #[.int .i64 la] := b4H.out
    have hq3 : Blk (w5.drewN nq) (m + 3) 3 #[.int .i64 np] := b3H.out
    have hsz : (((w5.drewN nq).setCell ⟨m + 4, 0, none⟩ (.int .i64 k)).setCell ⟨m + 3, 0, none⟩ (.int .i64 (↑np + 1))).heap.size = w5.heap.size := by simp [World.setCell]
    refine ⟨⟨(hold m (by omega) (by omega)).trans b0H.out, (hold _ (by omega) (by omega)).trans b1H.out, (hold _ (by omega) (by omega)).trans b2H.out, ?_, ?_, hw.trans ?_, by rw [hsz]; exact hz5, fun i hi => by rw [hsz]; exact hU i hi⟩, ⟨by rw [hsz]; exact Nat.le_refl _, fun i hi his => hold i (by have := (hU i hi).1; omega) (by have := (hU i hi).1; omega)⟩, hold _ (by omega) (by omega), fun g hg => ⟨g, hg.keep (hold T (by omega) (by omega)), fun _ _ => rfl⟩⟩
    · rw [show ((pre ++ [((⟨k, hk⟩, xv) : Fin 32 × Int)]).length : Nat) = np + 1 by rw [List.length_append, hnpH.out]; rfl]
      exact (hq3.far (p := ⟨m + 4, 0, none⟩) (by show m + 3 ≠ m + 4; omega) _).set_ 0 _
    · rw [hls.out]
      exact (hq.set_ 0 (.int .i64 k)).far (p := ⟨m + 3, 0, none⟩) (by show m + 4 ≠ m + 3; omega) _
    · exact ⟨rfl, rfl, rfl, by rw [hsz]; exact Nat.le_refl _, fun i hi => hold i (by omega) (by omega)⟩
  case done =>
    rintro D U xs W hD hDU rfl ⟨b0, b1, b2, b3, b4, hw, hz5, hU⟩ hK
    obtain ⟨N, hN⟩ : ∃ N, (upto f 32).length = N := ⟨_, rfl⟩
    have hN32 : N ≤ 32 := by rw [← hN]; exact upto_len f 32
    obtain ⟨fr, hfr⟩ : ∃ fr : Int, 32 - (N : Int) = fr := ⟨_, rfl⟩
    have hsub : IntKind.i64.wrap (32 - fr) = (N : Int) := by rw [IntWalk.i64_in _ (by omega)]; omega
    have hTZ := Lib.hid (fun Z (hb : Below W.heap.size W Z) => hTH.out.keep (w' := Z) ((hb.block T (by omega)).trans (hw.block T hTm)))
    have hRZ := Lib.hid (fun Z (hb : Below W.heap.size W Z) => hRH.out.keep (w' := Z) ((hb.block R (by omega)).trans (hw.block R hRm)))
    have hfT := Lib.hid (fun Z (hb : Below W.heap.size W Z) => (show Calls Try.prog 42 #[.pointer (some ⟨T, 0, none⟩)] Z fun e w' => e = .returned (.int .i64 fr) ∧ Below Z.heap.size Z w' from by
      have h := free_any Z (hTZ.out Z hb)
      rw [hN, hfr] at h
      exact h))
    have hfR := Lib.hid (fun Z (hb : Below W.heap.size W Z) => (show Calls Try.prog 52 #[.pointer (some ⟨R, 0, none⟩)] Z fun e w' => e = .returned (.int .i64 fr) ∧ Below Z.heap.size Z w' from by
      have h := rfree_any Z (hRZ.out Z hb)
      rw [hN, hfr] at h
      exact h.mono fun e w' ⟨h1, h2⟩ => ⟨h1, by rw [h2]; exact Below.refl _ _⟩))
    rw [hN] at b3
    have hS := Lib.hid (fun Z (hb : Frame (m + 2) (m + 2) W Z) => (show Z.cell? ⟨m, 0, none⟩ = some (.pointer (some ⟨T, 0, none⟩)) ∧ Z.cell? ⟨m + 1, 0, none⟩ = some (.pointer (some ⟨R, 0, none⟩)) ∧ Z.cell? ⟨m + 3, 0, none⟩ = some (.int .i64 (N : Nat)) from by
      have k0 : Blk Z m 54 _ := (hb.block m b0.lt (by omega) (by omega)).trans b0
      have k1 : Blk Z (m + 1) 56 _ := (hb.block _ b1.lt (by omega) (by omega)).trans b1
      have k3 : Blk Z (m + 3) 3 _ := (hb.block _ b3.lt (by omega) (by omega)).trans b3
      exact ⟨k0.cell 0, k1.cell 0, k3.cell 0⟩))
    have hFB := Lib.hid (fun Z (hb : Below W.heap.size W Z) => (⟨hb.os, hb.tape, hb.output, hb.size, fun k hk _ _ => hb.block k hk⟩ : Frame (m + 2) (m + 2) W Z))
    obtain ⟨s0, s1, s3⟩ := hS.out W (Frame.refl _ _ _)
    have hbd : Hid (Below W.heap.size W W.drew) := Lib.hid (Below.refl _ _).drew
    have b2H := Lib.hid b2
    have hKH := Lib.hid hK
    have hwH := Lib.hid hw
    have hUD := Lib.hid (hU D hDU)
    have hz5H := Lib.hid hz5
    clear b0 b1 b2 b3 b4 hU hK hw hN hfr
    gi_wp2
    refine wpIn_wide.2 ?_
    go_region_held3 (fun Z => Z.cell? ⟨m, 0, none⟩ = some (.pointer (some ⟨T, 0, none⟩)) ∧ Z.cell? ⟨m + 1, 0, none⟩ = some (.pointer (some ⟨R, 0, none⟩)) ∧ Z.cell? ⟨m + 3, 0, none⟩ = some (.int .i64 (N : Nat)))
      (first | exact hS.out _ (hFB.out _ hbd.out) | exact hS.out _ ((hFB.out _ hbF.out).setP _ _) | exact hS.out _ (hFB.out _ hbF.out) | exact hS.out _ (hFB.out _ hbC.out) | exact hS.out _ (hFB.out _ hbB.out) | exact hS.out _ (hFB.out _ hbA.out) | go_keep)
      (first
      | (go_at_call 42; refine (hfT.out _ hbC.out).mono ?_; rintro e wF ⟨rfl, hb⟩; have hbF := Lib.hid (hbC.out.trans (hb.mono hbC.out.size)); have g2 : Blk wF (m + 2) 4 #[.bool false] := (hbF.out.block _ b2H.out.lt).trans b2H.out; have g3 := g2.cell 0; have g4 := g2.frozen 0; have g2H := Lib.hid g2; clear hb g2)
      | (go_at_call 42; refine (hfT.out _ hbA.out).mono ?_; rintro e wB ⟨rfl, hb⟩; have hbB := Lib.hid (hbA.out.trans (hb.mono hbA.out.size)); clear hb)
      | (go_at_call 52; refine (hfR.out _ hbB.out).mono ?_; rintro e wF ⟨rfl, hb⟩; have hbF := Lib.hid (hbB.out.trans (hb.mono hbB.out.size)); have g2 : Blk wF (m + 2) 4 #[.bool false] := (hbF.out.block _ b2H.out.lt).trans b2H.out; have g3 := g2.cell 0; have g4 := g2.frozen 0; have g2H := Lib.hid g2; clear hb g2)
      | (go_at_call 52; refine (hfR.out _ hbA.out).mono ?_; rintro e wC ⟨rfl, hb⟩; have hbC := Lib.hid (hbA.out.trans (hb.mono hbA.out.size)); clear hb)
      | (go_at_call 52; refine (hfR.out _ hbd.out).mono ?_; rintro e wA ⟨rfl, hb⟩; have hbA := Lib.hid (hbd.out.trans hb); clear hb))
    all_goals
      go_wp2
      gi_wp2
      have hD1 := hUD.out
      have hB := hbF.out
      have hK' : (wF.setCell ⟨m + 1 + 1, 0, none⟩ (.bool true)).heap[D]? = some (.deferred (some [])) := (Below.heap_setCell _ _ _ D (by show D ≠ m + 1 + 1; omega)).trans ((hB.block D hD1.2).trans hKH.out)
      refine ⟨by simp, .inl ⟨_, _, rfl, run_takeDeferred hK', ?_⟩⟩
      have hb7 : Blk (wF.setCell ⟨m + 1 + 1, 0, none⟩ (.bool true)) (m + 1 + 1) 4 #[.bool true] := g2H.out.set_ 0 _
      have hb8 : Blk ((wF.setCell ⟨m + 1 + 1, 0, none⟩ (.bool true)).putObj D (.deferred none)) (m + 1 + 1) 4 #[.bool true] := (World.putObj_heap_other (by omega)).trans hb7
      have hc8 := hb8.cell 0
      refine ⟨.bool true, by simp [results, Try.f39, go_sem, hc8], rfl, ?_⟩
      have hB7 := (hwH.out.trans (hB.mono (by have := hz5H.out; omega))).setCell (p := ⟨m + 1 + 1, 0, none⟩) (by show m ≤ m + 1 + 1; omega) (.bool true)
      exact hB7.trans ⟨rfl, rfl, rfl, by simp [World.putObj], fun k hk => World.putObj_heap_other (by omega)⟩
  case stop =>
    rintro D c U pre X hD hDU hpre h hK
    exact h.elim

theorem same_any {T R : Nat} {f : Nat → Sl} (w : World) (hT : TabAt w T f) (hR : RTb w R f) : Calls Try.prog 39 #[.pointer (some ⟨T, 0, none⟩), .pointer (some ⟨R, 0, none⟩)] w fun e w' => e = .returned (.bool true) ∧ Below w.heap.size w w' :=
  callsIn_wide.1 (same_in w hT hR)
end Go.Proofs.Ytifoanmoadogoaa
