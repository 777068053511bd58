/- The kernel: fork. Condition: the kernel lies as stated; what the process's descriptors name is there. -/
import Derived.Test.YtmilagppbepnbaaGreatKgT
import Derived.Test.YtmilagppbepnbaaGreatKgW
namespace Go.Proofs.YtmilagppbepnbaaGreat.Kn
open Go.RowKit Go.PlainAid
set_option linter.unusedVariables false
set_option linter.unusedSimpArgs false
attribute [local go_sem] Oper.semAt_some
section
variable {w w' : World} {B : Ix → Nat → Prop} {q : Nat} {K K' : Ker} {M : Mp} {c : Nat}
set_option maxRecDepth 100000 in
set_option maxHeartbeats 4000000 in
theorem fork_full (h : KerIs w B q K M) (p : Value) (hl : 24 ≤ K.procs.length) :
    Calls Tryz.prog 158 #[.pointer (some ⟨q, 0, none⟩), p] w fun e w' => e = .returned (.tuple #[.int .i64 0, .int .i64 11]) ∧ Below w.heap.size w w' := by
  obtain ⟨W0, hW0⟩ : ∃ W, w.alloc (.cells #[.pointer (some ⟨q, 0, none⟩)] 25) = W := ⟨_, rfl⟩
  have hb0 : Below w.heap.size w W0 := by rw [← hW0]; exact (Below.refl _ _).alloc (Nat.le_refl _) _
  have hX0 : Blk W0 w.heap.size 25 #[.pointer (some ⟨q, 0, none⟩)] := by rw [← hW0]; exact Blk.new _ _ _
  have hcn := Lib.hid (countR_any (h.below hb0))
  have x0 : W0.cell? ⟨w.heap.size, 0, none⟩ = some (.pointer (some ⟨q, 0, none⟩)) := hX0.cell 0
  obtain ⟨l, hll⟩ : ∃ l, K.procs.length = l := ⟨_, rfl⟩
  rw [hll] at hcn hl
  have d1 : (24 : Int) ≤ (l : Int) := by omega
  have hb0H := Lib.hid hb0
  have hW0H := Lib.hid hW0
  clear h hb0 hX0 hll hl hW0
  go_enter Tryz.func158, Tryz.ntmps158
  go_upto_region 1 with fail
  rw [hW0H.out]
  go_wp2_with (go_at_call 224; refine hcn.out.mono ?_; rintro e w' ⟨rfl, hwq⟩; obtain rfl := hwq.symm)
  go_ret2
  exact ⟨rfl, hb0H.out⟩
/-- What the range holds: the kernel with some names more; the child, its table. -/
structure Kid (w0 : World) (B : Ix → Nat → Prop) (q : Nat) (K : Ker) (M : Mp) (P : Prc) (x cb tc n0 : Nat) (pre : List (Fin 32 × Int)) (X : World) : Prop where
  is_ : KerIs X B q (incL K pre) M
  frm : Frm (AllX B) w0 X
  box : Blk X x 25 #[.pointer (some ⟨q, 0, none⟩)]
  kid : Blk X cb 84 #[.int .i64 0, .int .i64 P.num, .pointer (some ⟨tc, 0, none⟩), .int .i64 P.dir, .int .i64 P.mask, .bool false, .int .i64 0]
  tab : Pp.TabAt X tc P.tab
  lo : w0.heap.size ≤ x ∧ w0.heap.size ≤ cb ∧ w0.heap.size ≤ tc ∧ cb ≠ tc ∧ x < n0 ∧ cb < n0 ∧ tc < n0 ∧ w0.heap.size ≤ n0 ∧ n0 ≤ X.heap.size
  old : ∀ i g, B i g → g < w0.heap.size
theorem Kid.go {w0 X Y : World} {P : Prc} {x cb tc n0 : Nat} {pre : List (Fin 32 × Int)} (h : Kid w0 B q K M P x cb tc n0 pre X) (hb : Below n0 X Y) : Kid w0 B q K M P x cb tc n0 pre Y := by
  obtain ⟨l1, l2, l3, l4, l5, l6, l7, l8, l9⟩ := h.lo
  have hs := hb.size
  refine ⟨h.is_.keep hs (fun i g hg => hb.block g (by have := h.old i g hg; omega)), ⟨hb.os.trans h.frm.os, hb.tape.trans h.frm.tape, hb.output.trans h.frm.output, by have := h.frm.size; omega, fun g h1 h2 => (hb.block g (by omega)).trans (h.frm.block g h1 h2)⟩, h.box.keep (hb.block _ l5), h.kid.keep (hb.block _ l6), h.tab.keep (hb.block _ l7), ⟨l1, l2, l3, l4, l5, l6, l7, l8, by omega⟩, h.old⟩
set_option maxRecDepth 100000 in
set_option maxHeartbeats 8000000 in
theorem fork_in (nn : Nat) (hnn : 5 ≤ nn) (h : KerIs w B q K M) (hw : WF c K.fs) (hc : c ≤ 5000) {n : Nat} {P : Prc} (hP : ask K.procs n = some P) (hl : K.procs.length < 24) (hlast : K.lastR < 90000)
    (hok : ∀ i, i < 32 → (P.tab i).tk = true → ∃ m : Nat, (P.tab i).x = m ∧ ∃ D, ask K.descs m = some D ∧ -1000000 ≤ D.refs ∧ D.refs ≤ 900000) :
    CallsIn Fence.wide nn Tryz.prog 158 #[.pointer (some ⟨q, 0, none⟩), .pointer (some ⟨M.br n, 0, none⟩)] w fun e w' => e = .returned (.tuple #[.int .i64 ((K.lastR : Int) + 1), .int .i64 0]) ∧ KP (AllX B) w K M w' q (forkM K P).2.2 := by
  obtain ⟨W0, hW0⟩ : ∃ W, w.alloc (.cells #[.pointer (some ⟨q, 0, none⟩)] 25) = W := ⟨_, rfl⟩
  have hb0 : Below w.heap.size w W0 := by rw [← hW0]; exact (Below.refl _ _).alloc (Nat.le_refl _) _
  have hX0 : Blk W0 w.heap.size 25 #[.pointer (some ⟨q, 0, none⟩)] := by rw [← hW0]; exact Blk.new _ _ _
  have h0 := h.below hb0
  have hcn := Lib.hid (countR_any h0)
  have x0 : W0.cell? ⟨w.heap.size, 0, none⟩ = some (.pointer (some ⟨q, 0, none⟩)) := hX0.cell 0
  obtain ⟨l, hll⟩ : ∃ l, K.procs.length = l := ⟨_, rfl⟩
  have hllH := Lib.hid hll
  rw [hll] at hcn hl
  have d1 : ¬ ((24 : Int) ≤ (l : Int)) := by omega
  obtain ⟨hB, hT, hS1, hS2, hne⟩ : PrcAt W0 (B (.proc n)) (M.br n) (M.bt n) P := h0.part (.proc n) P hP
  obtain ⟨b, hbe⟩ : ∃ b, M.br n = b := ⟨_, rfl⟩
  obtain ⟨tb, htb⟩ : ∃ tb, M.bt n = tb := ⟨_, rfl⟩
  rw [hbe, htb] at hB
  rw [htb] at hT
  rw [hbe]
  have hSS : Hid (∀ Z, Below W0.heap.size W0 Z → Z.cell? ⟨b, 0, none⟩ = some (.int .i64 P.num) ∧ Z.cell? ⟨b, 2, none⟩ = some (.pointer (some ⟨tb, 0, none⟩)) ∧ Z.cell? ⟨b, 3, none⟩ = some (.int .i64 P.dir) ∧ Z.cell? ⟨b, 4, none⟩ = some (.int .i64 P.mask)) := Lib.hid (fun Z hZ => by
    have hB' := hB.keep (hZ.block _ hB.lt)
    exact ⟨hB'.cell 0, hB'.cell 2, hB'.cell 3, hB'.cell 4⟩)
  have hcopy := Lib.hid (Pp.tcopy_any (f := P.tab) W0.drew (hT.keep rfl))
  have hbd : Below W0.heap.size W0 W0.drew := (Below.refl _ _).drew
  have hSd := hSS.out _ hbd
  have hS0 := hSS.out _ (Below.refl _ _)
  have hb0H := Lib.hid hb0
  have hW0H := Lib.hid hW0
  have hX0H := Lib.hid hX0
  have hH := Lib.hid h
  have hPH := Lib.hid hP
  have hwH := Lib.hid hw
  have hokH := Lib.hid hok
  clear h hb0 hX0 hll hW0 hw hP hok h0 hB hT hS1 hS2 hne hbe htb
  refine callsIn_of_wp_marks Tryz.func158 rfl trivial ?_ rfl
  simp only [Tryz.ntmps158, List.size_toArray, List.length_cons, List.length_nil, Nat.reduceAdd, Nat.reduceSub, Array.replicate_succ, Array.replicate_zero, List.push_toArray, List.append_toArray, List.nil_append, List.cons_append]
  refine wpIn_wide.2 ?_
  go_upto_region 1 with fail
  rw [hW0H.out]
  go_upto_region 3 with (go_at_call 224; refine hcn.out.mono ?_; rintro e w' ⟨rfl, hwq⟩; obtain rfl := hwq.symm)
  go_region_held3 (fun Z => Z.cell? ⟨b, 0, none⟩ = some (.int .i64 P.num) ∧ Z.cell? ⟨b, 2, none⟩ = some (.pointer (some ⟨tb, 0, none⟩)) ∧ Z.cell? ⟨b, 3, none⟩ = some (.int .i64 P.dir) ∧ Z.cell? ⟨b, 4, none⟩ = some (.int .i64 P.mask)) (first | exact hS0 | exact hSd | exact hSS.out _ hb2H.out | exact hSS.out _ (hb2H.out.alloc (by have := hb2H.out.size; omega) _) | go_keep | fail)
    ((first | (go_at_call 225; refine hcopy.out.mono ?_; rintro e w2 ⟨rfl, hT2, hb2⟩; have hb2H : Hid (Below W0.heap.size W0 w2) := Lib.hid (hbd.trans hb2); have hT2H := Lib.hid hT2; clear hT2 hb2) | fail))
  go_wp2_with (go_at_call 51; refine (Pp.all_any _ _).mono ?_; rintro e w3 ⟨rfl, rfl⟩)
  obtain ⟨W3, hW3⟩ : ∃ W, (w2.alloc (.cells #[.int .i64 0, .int .i64 P.num, .pointer (some ⟨W0.heap.size, 0, none⟩), .int .i64 P.dir, .int .i64 P.mask, .bool false, .int .i64 0] 84)).alloc (.cells #[.pointer (some ⟨W0.heap.size, 0, none⟩)] 81) = W := ⟨_, rfl⟩
  obtain ⟨x, hx⟩ : ∃ x, w.heap.size = x := ⟨_, rfl⟩
  obtain ⟨tc, htc⟩ : ∃ tc, W0.heap.size = tc := ⟨_, rfl⟩
  obtain ⟨cb, hcb⟩ : ∃ cb, w2.heap.size = cb := ⟨_, rfl⟩
  have hs0 := hX0H.out.lt
  have hs2 : tc ≤ cb := by have := hb2H.out.size; omega
  have hst : tc < cb := by have := hT2H.out.lt; have e : W0.drew.heap.size = W0.heap.size := rfl; omega
  have hb3 : Below w2.heap.size w2 W3 := by rw [← hW3]; exact ((Below.refl _ w2).alloc (Nat.le_refl _) _).alloc (by simp) _
  have hs3 : W3.heap.size = cb + 2 := by rw [← hW3, ← hcb]; simp
  have hC3 : Blk W3 cb 84 #[.int .i64 0, .int .i64 P.num, .pointer (some ⟨tc, 0, none⟩), .int .i64 P.dir, .int .i64 P.mask, .bool false, .int .i64 0] := by rw [← hW3, ← hcb, ← htc]; exact (Blk.new _ _ _).alloc _
  have hI3 : Blk W3 (cb + 1) 81 #[.pointer (some ⟨tc, 0, none⟩)] := by
    have h := Blk.new (w2.alloc (.cells #[.int .i64 0, .int .i64 P.num, .pointer (some ⟨W0.heap.size, 0, none⟩), .int .i64 P.dir, .int .i64 P.mask, .bool false, .int .i64 0] 84)) 81 #[.pointer (some ⟨W0.heap.size, 0, none⟩)]
    rw [World.size_alloc, hW3, hcb, htc] at h
    exact h
  have hT3 : Pp.TabAt W3 tc P.tab := by
    have h := hT2H.out
    have e : W0.drew.heap.size = W0.heap.size := rfl
    rw [e, htc] at h
    exact h.keep (hb3.block _ h.lt)
  have hb03 : Below W0.heap.size W0 W3 := hb2H.out.trans (hb3.mono hb2H.out.size)
  have hbw3 : Below w.heap.size w W3 := hb0H.out.trans (hb03.mono hb0H.out.size)
  have hX3 : Blk W3 x 25 #[.pointer (some ⟨q, 0, none⟩)] := by rw [← hx]; exact hX0H.out.keep (hb03.block _ hX0H.out.lt)
  have hKid : Kid w B q K M P x cb tc (cb + 2) [] W3 := ⟨hH.out.below hbw3, Frm.of_below hbw3, hX3, hC3, hT3, ⟨by omega, by omega, by omega, by omega, by omega, by omega, by omega, by omega, by omega⟩, fun i g hg => hH.out.lt i g hg⟩
  rw [hW3, hx, htc, hcb]
  have hxH := Lib.hid hx
  have hI30 := hI3.cell 0
  clear hW3 hx htc hcb hC3 hX3 hSS hcopy hbd hSd hS0 hb0H hW0H hX0H x0 hb2H hT2H hb3 hb03 hbw3 hcn
  have hdecide : Hid (∀ (y : Fin 32 × Int), (P.tab y.1.1).tk = true → y.2 = (P.tab y.1.1).x → ∃ m : Nat, y.2 = m ∧ ∃ D, ask K.descs m = some D ∧ -1000000 ≤ D.refs ∧ D.refs ≤ 900000) := Lib.hid (fun y h1 h2 => by
    obtain ⟨m, hm, hD⟩ := hokH.out y.1.1 y.1.2 h1
    exact ⟨m, h2.trans hm, hD⟩)
  refine (wpIn_wide (n := nn)).1 ?_
  apply Pp.range_law (n := nn) rfl (by omega) (gf := 95) (lb := #[.pointer (some ⟨cb + 1, 0, none⟩)]) rfl trivial (enters_of Tryz.func95 (by kernel_rfl) rfl)
    (Pp.all_x (nn - 1) (by omega) (cb + 1) tc P.tab W3 (by omega) hI30 hT3) (Pp.keepX_b (by omega) (by omega)) (Below.refl _ _) (fun _ => rfl)
    (fun U pre X => Kid w B q K M P x cb tc (cb + 2) pre X ∧ ∀ k ∈ U, cb + 2 ≤ k ∧ k < X.heap.size) (fun _ _ _ _ => False)
    ?abide (fun _ _ _ _ _ _ h _ => h) ⟨hKid, fun k hk => by cases hk⟩
    ?a1 (fun _ X => X) (fun x X => Below.refl _ X) (fun _ _ _ _ h => h) ?assign ?body ?done ?stop
  case abide =>
    rintro U U' pre A Z ⟨hk, hU⟩ he
    obtain ⟨l1, l2, l3, l4, l5, l6, l7, l8, l9⟩ := hk.lo
    refine ⟨hk.go ⟨he.os, he.tape, he.output, he.size, fun k hk => he.block k (by omega) (fun e => by have := (hU k e).1; omega)⟩, fun k hk => ?_⟩
    have := he.size
    rcases he.new k hk with e | e
    · have := hU k e; omega
    · omega
  case assign =>
    intro l' x X K hK
    gi_wp2
    exact hK
  case body =>
    rintro l' U pre y X X' o hsp - hl' hX' ⟨hK, hU⟩
    have hmem := (Pp.mem_upto (Nat.le_refl 32)).1 (hsp.subset (List.mem_append_right _ (List.mem_singleton.2 rfl)))
    obtain ⟨m, hm, D, hD, hr1, hr2⟩ := hdecide.out y hmem.2.1 hmem.2.2
    have hpl : pre.length ≤ 32 := by
      have h1 := hsp.length_le
      have h2 := Pp.upto_len P.tab 32
      rw [List.length_append] at h1
      omega
    obtain ⟨j, hj, hD2⟩ := incL_has pre hD
    obtain ⟨rf, hrf⟩ : ∃ rf, D.refs + (j : Int) = rf := ⟨_, rfl⟩
    rw [hrf] at hD2
    have hrb : -1000000 ≤ rf ∧ rf ≤ 1000000 := by omega
    obtain ⟨l1, l2, l3, l4, l5, l6, l7, l8, l9⟩ := hK.lo
    obtain ⟨hDB, hDS⟩ : DscAt M.bx X' (B (.desc m)) (M.bd m) { D with refs := rf } := hK.is_.part (.desc m) _ hD2
    have hdl := hK.old _ _ hDS
    have hget := getD_any hK.is_ (m : Int)
    have hask : askI (incL K pre).descs (m : Int) = some m := by unfold askI; rw [if_pos (by omega), Int.toNat_natCast, hD2]; rfl
    rw [hask] at hget
    have hturn := Lib.hid (fun (W : World) (hW : Below X'.heap.size X' W) => turn_dc (hK.is_.below hW) hD2 3 (.int .i64 (rf + 1)) (D' := { D with refs := rf + 1 }) rfl)
    obtain ⟨d, hd⟩ : ∃ d, M.bd m = d := ⟨_, rfl⟩
    rw [hd] at hDB hDS hdl hturn
    have hgetH : Hid (Calls Tryz.prog 189 #[.pointer (some ⟨q, 3, none⟩), .int .i64 m] X' fun e w' => e = .returned (.pointer (some ⟨d, 0, none⟩)) ∧ Below X'.heap.size X' w') := Lib.hid (by rw [← hd]; exact hget)
    have x0 : X'.cell? ⟨x, 0, none⟩ = some (.pointer (some ⟨q, 0, none⟩)) := hK.box.cell 0
    have hsnoc : Hid (incL K (pre ++ [y]) = setD (incL K pre) m { D with refs := rf + 1 }) := Lib.hid (by rw [incL_snoc, hm, Int.toNat_natCast]; unfold incM; rw [hD2])
    obtain ⟨⟨k0, hk0⟩, xv⟩ := y
    dsimp only at hm
    subst hm
    have hKH := Lib.hid hK
    have hUH := Lib.hid hU
    have hDBH := Lib.hid hDB
    have hDSH := Lib.hid hDS
    have hdX := hDB.lt
    clear hsp hX' hmem hD hD2 hget hask hd hDB hDS hK hU hrf
    dsimp only [Pp.encT]
    gi_wp2
    refine ⟨trivial, fun h => (by cases h), ?_⟩
    refine (CallsIn.inRound l' (callsIn_wide.2 hgetH.out)).mono ?_
    rintro e wg ⟨rfl, hbg⟩
    have e3 : wg.cell? ⟨d, 3, none⟩ = some (.int .i64 rf) := (hDBH.out.keep (hbg.block d hdX)).cell 3
    have f3 : wg.frozen? ⟨d, 3, none⟩ = false := (hDBH.out.keep (hbg.block d hdX)).frozen 3
    have hbgH := Lib.hid hbg
    clear hbg
    gi_wp2
    have ht := hturn.out _ hbgH.out
    have hs9 := hbgH.out.size
    obtain ⟨W9, hW9⟩ : ∃ W, wg.setCell ⟨d, 3, none⟩ (.int .i64 (rf + 1)) = W := ⟨_, rfl⟩
    have far : ∀ g, g ≠ d → g < X'.heap.size → W9.heap[g]? = X'.heap[g]? := fun g hg hlt => by rw [← hW9]; exact (Below.heap_setCell _ _ _ g hg).trans (hbgH.out.block g hlt)
    have hsz9 : W9.heap.size = wg.heap.size := by rw [← hW9]; simp
    rw [hW9] at ht ⊢
    have hK := hKH.out
    have hF9 : Frm (AllX B) w W9 := by rw [← hW9]; exact (hK.frm.below hbgH.out).setCell (a := ⟨d, 3, none⟩) (.inl ⟨_, hDSH.out⟩) _
    refine ⟨⟨⟨by rw [hsnoc.out]; exact ht, hF9, hK.box.keep (far _ (by omega) hK.box.lt), hK.kid.keep (far _ (by omega) hK.kid.lt), hK.tab.keep (far _ (by omega) hK.tab.lt), ⟨l1, l2, l3, l4, l5, l6, l7, l8, by omega⟩, hK.old⟩, fun k hk => ?_⟩, ⟨by omega, fun k hk hlt => ?_⟩, ?_, fun f hf => ?_⟩
    · have := hUH.out k hk; omega
    · have := hUH.out k hk
      exact far k (by omega) hlt
    · exact far _ (by omega) (by omega)
    · exact ⟨f, hf.keep (far _ (by omega) hK.tab.lt), fun _ _ => rfl⟩
  case done =>
    rintro D U ys X hD hDU rfl ⟨hK, hU⟩ hKd
    obtain ⟨l1, l2, l3, l4, l5, l6, l7, l8, l9⟩ := hK.lo
    obtain ⟨hD1, hD2⟩ := hU D hDU
    obtain ⟨K1, hK1⟩ : ∃ K1, incL K (Pp.upto P.tab 32) = K1 := ⟨_, rfl⟩
    have hq1 := incL_eq K (Pp.upto P.tab 32)
    have hKis := hK.is_
    rw [hK1] at hq1 hKis
    obtain ⟨z1, z2, z3, z4, z5, z6⟩ := hq1
    have hf : forkM K P = ((K.lastR : Int) + 1, 0, putR (setF K1 (HoldM K1.fs P.dir).2) (kidP K P)) := by
      unfold forkM
      rw [if_neg (by have := hllH.out; omega), hK1, z1]
    have hfH := Lib.hid hf
    obtain ⟨xv, dv, rv, o1, o2, ho⟩ := hKis.own
    obtain ⟨fp, hfp⟩ : ∃ fp, M.fp = fp := ⟨_, rfl⟩
    have c0 : X.cell? ⟨x, 0, none⟩ = some (.pointer (some ⟨q, 0, none⟩)) := hK.box.cell 0
    have c1 : X.cell? ⟨q, 0, none⟩ = some (.pointer (some ⟨fp, 0, none⟩)) := by rw [← hfp]; exact ho.blk.cell 0
    have c2 : X.cell? ⟨cb, 3, none⟩ = some (.int .i64 P.dir) := hK.kid.cell 3
    have hIX : KerIs X.drew B q K1 M := hKis.keep (Nat.le_refl _) (fun _ _ _ => rfl)
    have hw1 : WF c K1.fs := by rw [z1]; exact hwH.out
    have hho : Hid (Calls Tryz.prog 30 #[.pointer (some ⟨fp, 0, none⟩), .int .i64 P.dir] X.drew fun e w' => e = .returned (.int .i64 (HoldM K1.fs P.dir).1) ∧ KP (AllX B) X.drew K1 M w' q (setF K1 (HoldM K1.fs P.dir).2)) := Lib.hid (by
      have := fHold_any hIX hw1 hc P.dir
      rw [hfp] at this
      exact this)
    have hnr : n ≤ K1.lastR := by rw [z6]; exact (hH.out.num.lr _ (ask_mem hPH.out)).2
    have hPd : ask (setF K1 (HoldM K1.fs P.dir).2).procs n = some P := by show ask K1.procs n = some P; rw [z3]; exact hPH.out
    have hotX : ∀ g, w.heap.size ≤ g → g < X.heap.size → ¬ AllX B g := fun g h1 _ ⟨i, hi⟩ => by have := hK.old i g hi; omega
    have hkp6 : Hid (∀ W, KP (AllX B) X.drew K1 M W q (setF K1 (HoldM K1.fs P.dir).2) → (W.cell? ⟨x, 0, none⟩ = some (.pointer (some ⟨q, 0, none⟩)) ∧ W.cell? ⟨q, 0, none⟩ = some (.pointer (some ⟨fp, 0, none⟩)) ∧ W.cell? ⟨cb, 3, none⟩ = some (.int .i64 P.dir)) ∧ W.heap[cb]? = X.heap[cb]? ∧ W.heap[tc]? = X.heap[tc]? ∧ W.heap[D]? = X.heap[D]?) := Lib.hid (fun W hW => by
      have hsee := (kp_see hW hnr hPd).1
      obtain ⟨B6, M6, k1, k2, k3, k4, k5, k6, k7⟩ := hW
      have kb : ∀ g, w.heap.size ≤ g → g < X.heap.size → W.heap[g]? = X.heap[g]? := fun g h1 h2 => k7.block g h2 (hotX g h1 h2)
      refine ⟨⟨(World.cell?_of_block (a := ⟨x, 0, none⟩) (kb x (by omega) (by omega))).trans c0, ?_, (World.cell?_of_block (a := ⟨cb, 3, none⟩) (kb cb (by omega) (by omega))).trans c2⟩, kb cb (by omega) (by omega), kb tc (by omega) (by omega), kb D (by omega) (by omega)⟩
      rw [hfp] at hsee
      exact hsee)
    have hKH := Lib.hid hK
    have hUH := Lib.hid hU
    have hKdH := Lib.hid hKd
    have hz : Hid (K1.lastX = K.lastX ∧ K1.lastD = K.lastD ∧ K1.lastR = K.lastR ∧ K1.procs = K.procs) := Lib.hid ⟨z4, z5, z6, z3⟩
    have hoth := Lib.hid hotX
    have hfpH := Lib.hid hfp
    clear hK hKis hU hKd ho hIX hw1 hnr hPd hotX z1 z2 z3 z4 z5 z6 hf hK1 hfp hwH hokH hdecide hI30 hT3 hKid
    have d0 : X.drew.cell? ⟨x, 0, none⟩ = some (.pointer (some ⟨q, 0, none⟩)) := c0
    have d1' : X.drew.cell? ⟨q, 0, none⟩ = some (.pointer (some ⟨fp, 0, none⟩)) := c1
    have d2 : X.drew.cell? ⟨cb, 3, none⟩ = some (.int .i64 P.dir) := c2
    go_upto_region 7 with fail
    go_region_held3 (fun Z => Z.cell? ⟨x, 0, none⟩ = some (.pointer (some ⟨q, 0, none⟩)) ∧ Z.cell? ⟨q, 0, none⟩ = some (.pointer (some ⟨fp, 0, none⟩)) ∧ Z.cell? ⟨cb, 3, none⟩ = some (.int .i64 P.dir)) (first | exact ⟨c0, c1, c2⟩ | exact ⟨d0, d1', d2⟩ | exact (hkp6.out _ hk6H.out).1 | go_keep | fail)
      ((first | (go_at_call 30; refine hho.out.mono ?_; rintro e w6 ⟨rfl, hk6⟩; have hk6H := Lib.hid hk6; clear hk6) | fail))
    all_goals
      obtain ⟨⟨e0, _, _⟩, e1, e2, e3⟩ := hkp6.out _ hk6H.out
      obtain ⟨K2, hK2⟩ : ∃ K2, setF K1 (HoldM K1.fs P.dir).2 = K2 := ⟨_, rfl⟩
      have hk6' := hk6H.out
      have hz2 : Hid (K2.lastX = K.lastX ∧ K2.lastD = K.lastD ∧ K2.lastR = K.lastR ∧ K2.procs = K.procs) := Lib.hid (by rw [← hK2]; exact hz.out)
      rw [hK2] at hk6' hfH
      obtain ⟨B6, M6, k1, k2, k3, k4, k5, k6, k7⟩ := hk6'
      obtain ⟨xr, hxr⟩ : ∃ xr : Prc, xr = ⟨0, P.num, P.tab, P.dir, P.mask, false, 0⟩ := ⟨_, rfl⟩
      have hsx := k7.size
      have hsd : X.drew.heap.size = X.heap.size := rfl
      have hx6 : PrcAt w6 (fun g => g = cb ∨ g = tc) cb tc xr := by rw [hxr]; exact ⟨hKH.out.kid.keep e1, hKH.out.tab.keep e2, .inl rfl, .inr rfl, fun h => l4 h.symm⟩
      have hn6 : ∀ g, w.heap.size ≤ g → g < X.heap.size → ¬ AllX B6 g := fun g h1 h2 h3 => by
        rcases k6 g h3 with h4 | h4
        · exact hoth.out g h1 h2 h4
        · omega
      have hput := putR_any k1 (S := fun g => g = cb ∨ g = tc) hx6 (fun j g hj hg => by rcases hg with rfl | rfl <;> exact hn6 _ (by omega) (by omega) ⟨j, hj⟩) (fun g hg => by rcases hg with rfl | rfl <;> omega) (by have := hz2.out.2.2.1; omega)
      have hputH : Hid (Calls Tryz.prog 29 #[.pointer (some ⟨q, 5, none⟩), .pointer (some ⟨cb, 0, none⟩)] w6 fun e w' => e = .returned (.int .i64 ((K.lastR : Int) + 1)) ∧ ∃ B7, KerIs w' B7 q (putR K2 xr) (mpR M6 K2 cb tc) ∧ (∀ g, AllX B7 g → (AllX B6 g ∨ (g = cb ∨ g = tc)) ∨ w6.heap.size ≤ g) ∧ Frm (B6 .own) w6 w') := Lib.hid (hput.mono fun e w' ⟨he, B7, h1, h2, h3, _⟩ => ⟨by rw [he, hz2.out.2.2.1], B7, h1, h2, h3⟩)
      have hxrH := Lib.hid hxr
      have hk2H := Lib.hid k2
      have hk6F := Lib.hid k6
      have hk7H := Lib.hid k7
      have hn6H := Lib.hid hn6
      have e3H := Lib.hid e3
      clear c0 c1 c2 d0 d1' d2 hput hx6 k1 k2 k3 k4 k5 k6 k7 hk6H hkp6 hho hxr hn6 e1 e2 e3
      go_wp2_with (first
        | (go_at_call 29; refine hputH.out.mono ?_; rintro e w7 ⟨rfl, B7, hk7', hg7, hF7⟩
           have hP7 : Blk w7 cb 84 (pcells xr tc).toArray := by
             have h9 : PrcAt w7 (B7 (.proc (K2.lastR + 1))) ((mpR M6 K2 cb tc).br (K2.lastR + 1)) ((mpR M6 K2 cb tc).bt (K2.lastR + 1)) xr := hk7'.part (.proc (K2.lastR + 1)) xr (by show ask (K2.procs ++ [(K2.lastR + 1, xr)]) (K2.lastR + 1) = some xr; rw [ask_app (fun p hp => by rw [hz2.out.2.2.2] at hp; have := (hH.out.num.lr p hp).2; have := hz2.out.2.2.1; omega), if_pos rfl])
             have hbr : (mpR M6 K2 cb tc).br (K2.lastR + 1) = cb := by show upN M6.br (K2.lastR + 1) cb (K2.lastR + 1) = cb; unfold upN; rw [if_pos rfl]
             have hbt : (mpR M6 K2 cb tc).bt (K2.lastR + 1) = tc := by show upN M6.bt (K2.lastR + 1) tc (K2.lastR + 1) = tc; unfold upN; rw [if_pos rfl]
             rw [hbr, hbt] at h9
             exact h9.1
           have u0 : w7.cell? ⟨cb, 0, none⟩ = some (.int .i64 0) := by have := hP7.cell 0; rw [hxrH.out] at this; exact this
           have uf : w7.frozen? ⟨cb, 0, none⟩ = false := hP7.frozen 0
           have hk7H' := Lib.hid hk7'; have hg7H := Lib.hid hg7; have hF7H := Lib.hid hF7; clear hk7' hg7 hF7 hP7))
      obtain ⟨W8, hW8⟩ : ∃ W, w7.setCell ⟨cb, 0, none⟩ (.int .i64 ((K.lastR : Int) + 1)) = W := ⟨_, rfl⟩
      have hD8 : W8.heap[D]? = some (.deferred (some [])) := by
        rw [← hW8]
        refine (Below.heap_setCell _ _ _ D (show D ≠ cb by omega)).trans ?_
        refine (hF7H.out.block D (by have := hk7H.out.size; have e : X.drew.heap.size = X.heap.size := rfl; omega) (fun hh => hn6H.out D (by omega) (by omega) ⟨_, hh⟩)).trans ?_
        exact e3H.out.trans hKdH.out
      rw [hW8]
      refine ⟨by simp, .inl ⟨_, _, rfl, run_takeDeferred hD8, ?_⟩⟩
      refine ⟨_, results_tmp2 rfl _ _ _, rfl, ?_⟩
      rw [hfH.out]
      obtain ⟨v1, v2, v3, v4⟩ := hz2.out
      obtain ⟨u1, u2, u3, u4⟩ := hz.out
      have hs6 := hk7H.out.size
      have hsd2 : X.drew.heap.size = X.heap.size := rfl
      have hs7 := hF7H.out.size
      have hP3 : ask (putR K2 xr).procs (K2.lastR + 1) = some xr := by
        show ask (K2.procs ++ [(K2.lastR + 1, xr)]) (K2.lastR + 1) = some xr
        rw [ask_app (fun p hp => by rw [v4] at hp; have := (hH.out.num.lr p hp).2; omega), if_pos rfl]
      have hbr : (mpR M6 K2 cb tc).br (K2.lastR + 1) = cb := by show upN M6.br (K2.lastR + 1) cb (K2.lastR + 1) = cb; unfold upN; rw [if_pos rfl]
      have hst := step_pc hk7H'.out hP3 (P' := kidP K P) 0 (.int .i64 ((K.lastR : Int) + 1)) (fun tb => by rw [hxrH.out]; rfl) (by rw [hxrH.out]; rfl)
      rw [hbr, hW8, setR_put (fun p hp => by rw [v4] at hp; have := hH.out.num.lr p hp; omega)] at hst
      obtain ⟨B8, M8, j1, j2, j3, j4, j5, j6, j7⟩ := hst
      have own8 : ∀ g, AllX B8 g → (AllX B g ∨ (g = cb ∨ g = tc)) ∨ X.heap.size ≤ g := fun g hg => by
        rcases j6 g hg with h1 | h1
        · rcases hg7H.out g h1 with (h2 | h2) | h2
          · rcases hk6F.out g h2 with h3 | h3
            · exact .inl (.inl h3)
            · right; omega
          · exact .inl (.inr h2)
          · right; omega
        · right; omega
      have own7 : ∀ g, AllX B7 g → AllX B g ∨ w.heap.size ≤ g := fun g h1 => by
        rcases hg7H.out g h1 with (h2 | h2) | h2
        · rcases hk6F.out g h2 with h3 | h3
          · exact .inl h3
          · right; omega
        · right; rcases h2 with rfl | rfl <;> omega
        · right; omega
      have hx2 : MExt K M M6 := ⟨fun n hn => hk2H.out.bx n (by omega), fun n hn => hk2H.out.bd n (by omega), fun n hn => hk2H.out.br n (by omega), fun n hn => hk2H.out.bt n (by omega), hk2H.out.fp⟩
      have hK3 : (putR K2 xr).lastX = K2.lastX ∧ (putR K2 xr).lastD = K2.lastD ∧ (putR K2 xr).lastR = K2.lastR + 1 := ⟨rfl, rfl, rfl⟩
      have hK4 : (putR K2 (kidP K P)).lastX = K2.lastX ∧ (putR K2 (kidP K P)).lastD = K2.lastD ∧ (putR K2 (kidP K P)).lastR = K2.lastR + 1 := ⟨rfl, rfl, rfl⟩
      have hF : Frm (AllX B) w W8 := ((hKH.out.frm.below (w2 := X.drew) (Below.refl _ _).drew).trans (O1 := AllX B) (fun g hg => .inl hg) hk7H.out |>.trans (O1 := B6 .own) (fun g hg => (hk6F.out g ⟨_, hg⟩).imp_right (fun h => by omega)) hF7H.out).trans own7 j7
      refine ⟨B8, M8, j1.keep (by simp [World.putObj]) (fun i g hg => World.putObj_heap_other (fun e => ?_)), (hx2.trans (K' := K2) (ext_mpR M6 K2 cb tc) (by omega) (by omega) (by omega)).trans (K' := putR K2 xr) j2 (by omega) (by omega) (by omega), (by show K.lastX ≤ K2.lastX; omega), (by show K.lastD ≤ K2.lastD; omega), (by show K.lastR ≤ K2.lastR + 1; omega), fun g hg => ?_, ⟨hF.os, hF.tape, hF.output, by have := hF.size; simpa [World.putObj] using this, fun g h1 h2 => (World.putObj_heap_other (by omega)).trans (hF.block g h1 h2)⟩⟩
      · rcases own8 g ⟨i, hg⟩ with (h1 | h1) | h1
        · exact hoth.out D (by omega) (by omega) (e ▸ h1)
        · omega
        · omega
      · rcases own8 g hg with (h1 | h1) | h1
        · exact .inl h1
        · right; rcases h1 with rfl | rfl <;> omega
        · right; omega
  case stop =>
    rintro D c U pre X hD hDU hpre h hK
    exact h.elim
theorem fork_any (h : KerIs w B q K M) (hw : WF c K.fs) (hc : c ≤ 5000) {n : Nat} {P : Prc} (hP : ask K.procs n = some P) (hlast : K.lastR < 90000)
    (hok : ∀ i, i < 32 → (P.tab i).tk = true → ∃ m : Nat, (P.tab i).x = m ∧ ∃ D, ask K.descs m = some D ∧ -1000000 ≤ D.refs ∧ D.refs ≤ 900000) :
    Calls Tryz.prog 158 #[.pointer (some ⟨q, 0, none⟩), .pointer (some ⟨M.br n, 0, none⟩)] w fun e w' => e = .returned (.tuple #[.int .i64 (forkM K P).1, .int .i64 (forkM K P).2.1]) ∧ KP (AllX B) w K M w' q (forkM K P).2.2 := by
  by_cases hl : 24 ≤ K.procs.length
  · have hf : forkM K P = (0, 11, K) := by unfold forkM; rw [if_pos hl]
    rw [hf]
    exact (fork_full h _ hl).mono fun e w' ⟨he, hb⟩ => ⟨he, KP.of h hb⟩
  · have e1 : (forkM K P).1 = (K.lastR : Int) + 1 := by unfold forkM; rw [if_neg hl]
    have e2 : (forkM K P).2.1 = 0 := by unfold forkM; rw [if_neg hl]
    rw [e1, e2]
    exact callsIn_wide.1 (fork_in 5 (Nat.le_refl _) h hw hc hP (by omega) hlast hok)
end
end Go.Proofs.YtmilagppbepnbaaGreat.Kn
