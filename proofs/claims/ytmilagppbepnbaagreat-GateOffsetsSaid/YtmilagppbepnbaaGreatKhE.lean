/- The laws' awake: bytes through a pipe. No condition. -/
import Derived.Test.YtmilagppbepnbaaGreatKhB
import Derived.Test.YtmilagppbepnbaaGreatKhD
namespace Go.Proofs.YtmilagppbepnbaaGreat.Kn
open Go.RowKit Go.PlainAid
set_option linter.unusedVariables false
set_option linter.unusedSimpArgs false
attribute [local go_sem] Oper.semAt_some
/-- Checks by Bools, for a kernel that is written out. -/
def ppB (K : Ker) : Bool := K.descs.all (fun p => match p.2.pipe with | none => true | some z => decide (z ≤ K.lastX))
theorem pp_of {K : Ker} (h : ppB K = true) : ∀ m y, ask K.descs m = some y → ∀ z, y.pipe = some z → z ≤ K.lastX := fun m y hy z hz => by
  have h1 : (match y.pipe with | none => true | some z => decide (z ≤ K.lastX)) = true := List.all_eq_true.1 h _ (ask_mem hy)
  rw [hz] at h1
  exact of_decide_eq_true h1
def kidB (K : Ker) (P : Prc) : Bool := (List.range 32).all (fun i => !(P.tab i).tk || (decide (0 ≤ (P.tab i).x) && (match ask K.descs (P.tab i).x.toNat with | some D => decide (-1000000 ≤ D.refs) && decide (D.refs ≤ 900000) | none => false)))
theorem kid_of {K : Ker} {P : Prc} (h : kidB K P = true) : ∀ i, i < 32 → (P.tab i).tk = true → ∃ m : Nat, (P.tab i).x = m ∧ ∃ D, ask K.descs m = some D ∧ -1000000 ≤ D.refs ∧ D.refs ≤ 900000 := fun i hi ht => by
  have h1 := List.all_eq_true.1 h i (List.mem_range.2 hi)
  rw [ht, Bool.not_true, Bool.false_or, Bool.and_eq_true] at h1
  obtain ⟨h2, h3⟩ := h1
  have h4 := of_decide_eq_true h2
  refine ⟨(P.tab i).x.toNat, by omega, ?_⟩
  cases hk : ask K.descs (P.tab i).x.toNat with
  | none => rw [hk] at h3; cases h3
  | some D =>
    rw [hk] at h3
    dsimp only at h3
    rw [Bool.and_eq_true] at h3
    exact ⟨D, rfl, of_decide_eq_true h3.1, of_decide_eq_true h3.2⟩
def pOf (K : Ker) (n : Nat) : Prc := (ask K.procs n).getD prc0
def dOf (K : Ker) (m : Nat) : Dsc := (ask K.descs m).getD ⟨0, 0, 0, 0, 0, none, ⟨#[]⟩⟩
def xOf (K : Ker) (m : Nat) : Pp.St := (ask K.pipes m).getD ⟨64, 0, 0, []⟩
def hiT : ByteArray := ⟨#[104, 105]⟩
/-- The kernels along the way. -/
def aw0 : Ker := (newKP 3).1
def aw1 : Ker := (npipeM aw0 1 (pOf aw0 1)).2.2.2
def aw2 : Ker := (forkM aw1 (pOf aw1 1)).2.2
def aw3 : Ker := setX aw2 1 ((xOf aw2 1).written hiT.data.toList)
def aw4 : Ker := setX aw3 1 ((xOf aw3 1).read 9)
theorem awk_p0 : liveM aw0 1 = some 1 ∧ ask aw0.procs 1 = some (pOf aw0 1) := ⟨by kernel_rfl, by kernel_rfl⟩
theorem awk_r1 : (npipeM aw0 1 (pOf aw0 1)).1 = 3 ∧ (npipeM aw0 1 (pOf aw0 1)).2.1 = 4 ∧ (npipeM aw0 1 (pOf aw0 1)).2.2.1 = 0 := ⟨by kernel_rfl, by kernel_rfl, by kernel_rfl⟩
theorem awk_p1 : liveM aw1 1 = some 1 ∧ ask aw1.procs 1 = some (pOf aw1 1) := ⟨by kernel_rfl, by kernel_rfl⟩
theorem awk_r2 : (forkM aw1 (pOf aw1 1)).1 = 2 ∧ (forkM aw1 (pOf aw1 1)).2.1 = 0 := ⟨by kernel_rfl, by kernel_rfl⟩
theorem awk_p2 : liveM aw2 2 = some 2 ∧ ask aw2.procs 2 = some (pOf aw2 2) ∧ writN aw2 (pOf aw2 2) 4 = some 5 ∧ ask aw2.descs 5 = some (dOf aw2 5) ∧ (dOf aw2 5).kind = 4 ∧ (dOf aw2 5).pipe = some (dOf aw2 5).n ∧ (dOf aw2 5).n = 1 ∧ ask aw2.pipes 1 = some (xOf aw2 1) ∧ (xOf aw2 1).writeErr hiT.data.toList = 0 ∧ (xOf aw2 1).waits true = false ∧ (xOf aw2 1).wrote hiT.data.toList = 2 :=
  ⟨by kernel_rfl, by kernel_rfl, by kernel_rfl, by kernel_rfl, by kernel_rfl, by kernel_rfl, by kernel_rfl, by kernel_rfl, by kernel_rfl, by kernel_rfl, by kernel_rfl⟩
theorem awk_p3 : liveM aw3 1 = some 1 ∧ ask aw3.procs 1 = some (pOf aw3 1) ∧ readN aw3 (pOf aw3 1) 3 = some 4 ∧ ask aw3.descs 4 = some (dOf aw3 4) ∧ (dOf aw3 4).kind = 3 ∧ (dOf aw3 4).pipe = some (dOf aw3 4).n ∧ (dOf aw3 4).n = 1 ∧ ask aw3.pipes 1 = some (xOf aw3 1) ∧ (xOf aw3 1).readErr 9 = 0 ∧ (xOf aw3 1).waits false = false ∧ (⟨((xOf aw3 1).got 9).toArray⟩ : ByteArray) = hiT :=
  ⟨by kernel_rfl, by kernel_rfl, by kernel_rfl, by kernel_rfl, by kernel_rfl, by kernel_rfl, by kernel_rfl, by kernel_rfl, by kernel_rfl, by kernel_rfl, by kernel_rfl⟩
theorem awk_p4 : liveM aw4 1 = some 1 ∧ ask aw4.procs 1 = some (pOf aw4 1) ∧ readN aw4 (pOf aw4 1) 3 = some 4 ∧ ask aw4.descs 4 = some (dOf aw4 4) ∧ (dOf aw4 4).kind = 3 ∧ (dOf aw4 4).pipe = some (dOf aw4 4).n ∧ (dOf aw4 4).n = 1 ∧ ask aw4.pipes 1 = some (xOf aw4 1) ∧ (xOf aw4 1).waits false = true :=
  ⟨by kernel_rfl, by kernel_rfl, by kernel_rfl, by kernel_rfl, by kernel_rfl, by kernel_rfl, by kernel_rfl, by kernel_rfl, by kernel_rfl⟩
theorem aw_fs : aw0.fs = (HoldM newM 1).2 ∧ aw1.fs = aw0.fs := ⟨rfl, rfl⟩
theorem aw1_wf : WF 1 aw1.fs := hold_wf new_wf 1
section
variable {w w' : World}
/-- A kernel of the call's own; other blocks that lie beside it. -/
def OwnK (L : List (Nat × TypeId × Array Value)) (w0 w : World) (q : Nat) (K : Ker) : Prop := ∃ B M, KerIs w B q K M ∧ (∀ g, AllX B g → w0.heap.size ≤ g) ∧ Below w0.heap.size w0 w ∧ ∀ x ∈ L, Blk w x.1 x.2.1 x.2.2 ∧ ¬ AllX B x.1
theorem OwnK.below {L : List (Nat × TypeId × Array Value)} {w0 w w' : World} {q : Nat} {K : Ker} (h : OwnK L w0 w q K) (hb : Below w.heap.size w w') : OwnK L w0 w' q K := by
  obtain ⟨B, M, h1, h2, h3, h4⟩ := h
  exact ⟨B, M, h1.below hb, h2, h3.trans (hb.mono h3.size), fun x hx => ⟨(h4 x hx).1.keep (hb.block _ (h4 x hx).1.lt), (h4 x hx).2⟩⟩
theorem OwnK.res {L : List (Nat × TypeId × Array Value)} {w0 w : World} {q : Nat} {K : Ker} (h : OwnK L w0 w q K) (t : TypeId) (cs : Array Value) : OwnK ((w.heap.size, t, cs) :: L) w0 (w.alloc (.cells cs t)) q K := by
  obtain ⟨B, M, h1, h2, h3, h4⟩ := h
  have hb : Below w.heap.size w (w.alloc (.cells cs t)) := (Below.refl _ _).alloc (Nat.le_refl _) _
  refine ⟨B, M, h1.below hb, h2, h3.trans (hb.mono h3.size), fun x hx => ?_⟩
  rcases List.mem_cons.1 hx with rfl | hx
  · exact ⟨Blk.new _ _ _, fun ⟨i, hi⟩ => Nat.lt_irrefl _ (h1.lt i _ hi)⟩
  · exact ⟨(h4 x hx).1.keep (hb.block _ (h4 x hx).1.lt), (h4 x hx).2⟩
theorem OwnK.blk {L : List (Nat × TypeId × Array Value)} {w0 w : World} {q : Nat} {K : Ker} (h : OwnK L w0 w q K) {g : Nat} {t : TypeId} {cs : Array Value} (hx : (g, t, cs) ∈ L) : Blk w g t cs := by
  obtain ⟨B, M, h1, h2, h3, h4⟩ := h
  exact (h4 _ hx).1
theorem OwnK.step {L : List (Nat × TypeId × Array Value)} {w0 w w' : World} {q : Nat} {K K' : Ker} {B : Ix → Nat → Prop} {M : Mp} (h2 : ∀ g, AllX B g → w0.heap.size ≤ g) (h3 : Below w0.heap.size w0 w) (h4 : ∀ x ∈ L, Blk w x.1 x.2.1 x.2.2 ∧ ¬ AllX B x.1) (hk : KP (AllX B) w K M w' q K') : OwnK L w0 w' q K' := by
  obtain ⟨B', M', k1, k2, k3, k4, k5, k6, k7⟩ := hk
  have hs := h3.size
  refine ⟨B', M', k1, fun g hg => (k6 g hg).elim (h2 g) (fun h => by omega), h3.trans (k7.toBelow h2 hs), fun x hx => ?_⟩
  obtain ⟨h5, h6⟩ := h4 x hx
  exact ⟨h5.keep (k7.block _ h5.lt h6), fun h7 => (k6 _ h7).elim h6 (fun h8 => by have := h5.lt; omega)⟩
theorem own_call {L : List (Nat × TypeId × Array Value)} {w0 w : World} {q : Nat} {K K' : Ker} {pid : Int} {cs rs : Array Value} {v : Bool} (h : OwnK L w0 w q K) (hc : ∀ B M, KerIs w B q K M → Calls Tryz.prog 15 #[.pointer (some ⟨q, 0, none⟩), .int .i64 pid, .agg cs] w fun e w' => e = .returned (.tuple #[.agg rs, .bool v]) ∧ KP (AllX B) w K M w' q K') :
    Calls Tryz.prog 15 #[.pointer (some ⟨q, 0, none⟩), .int .i64 pid, .agg cs] w fun e w' => e = .returned (.tuple #[.agg rs, .bool v]) ∧ OwnK L w0 w' q K' := by
  obtain ⟨B, M, h1, h2, h3, h4⟩ := h
  exact (hc B M h1).mono fun e w' ⟨he, hk⟩ => ⟨he, OwnK.step h2 h3 h4 hk⟩
theorem own_new (w : World) : Calls Tryz.prog 11 #[] w fun e w' => ∃ q, e = .returned (.pointer (some ⟨q, 0, none⟩)) ∧ OwnK [] w w' q aw0 :=
  (new_k w).mono fun e w' ⟨q, he, B, M, h1, h2, h3⟩ => ⟨q, he, B, M, h1, h2, h3, fun x hx => by cases hx⟩
set_option maxRecDepth 100000 in
set_option maxHeartbeats 4000000 in
theorem awake_any (w : World) : Calls Tryz.prog 10 #[] w fun e w' => e = .returned (.bool true) ∧ Below w.heap.size w w' := by
  have j1 : Hid (∀ (L : List (Nat × TypeId × Array Value)) (W : World) (q : Nat), OwnK L w W q aw0 → Calls Tryz.prog 15 #[.pointer (some ⟨q, 0, none⟩), .int .i64 1, .agg #[.int .i64 7, .int .i64 0, .int .i64 0, .string ⟨#[]⟩, .string ⟨#[]⟩, .slice none 0 0]] W fun e w' => e = .returned (.tuple #[.agg #[.int .i64 3, .int .i64 4, .string ⟨#[]⟩, .slice none 0 0, .int .i64 0, .int .i64 0, .int .i64 0, .int .i64 0, .int .i64 0, .int .i64 0], .bool false]) ∧ OwnK L w w' q aw1) := Lib.hid (fun L W q h => own_call h (fun B M k => by
    have := c_pipe k awk_p0.1 awk_p0.2 (by decide +kernel) (by decide +kernel) (pp_of (by kernel_rfl)) awk_r1.2.2 0 0 ⟨#[]⟩ ⟨#[]⟩ none 0 0
    rw [awk_r1.1, awk_r1.2.1] at this
    exact this))
  have j2 : Hid (∀ (L : List (Nat × TypeId × Array Value)) (W : World) (q : Nat), OwnK L w W q aw1 → Calls Tryz.prog 15 #[.pointer (some ⟨q, 0, none⟩), .int .i64 1, .agg #[.int .i64 8, .int .i64 0, .int .i64 0, .string ⟨#[]⟩, .string ⟨#[]⟩, .slice none 0 0]] W fun e w' => e = .returned (.tuple #[.agg #[.int .i64 2, .int .i64 0, .string ⟨#[]⟩, .slice none 0 0, .int .i64 0, .int .i64 0, .int .i64 0, .int .i64 0, .int .i64 0, .int .i64 0], .bool false]) ∧ OwnK L w w' q aw2) := Lib.hid (fun L W q h => own_call h (fun B M k => by
    have := c_fork k awk_p1.1 awk_p1.2 aw1_wf (by omega) (by decide +kernel) (kid_of (by kernel_rfl)) awk_r2.2 0 0 ⟨#[]⟩ ⟨#[]⟩ none 0 0
    rw [awk_r2.1] at this
    exact this))
  have j3 : Hid (∀ (L : List (Nat × TypeId × Array Value)) (W : World) (q : Nat), OwnK L w W q aw2 → Calls Tryz.prog 15 #[.pointer (some ⟨q, 0, none⟩), .int .i64 2, .agg #[.int .i64 2, .int .i64 4, .int .i64 0, .string ⟨#[104, 105]⟩, .string ⟨#[]⟩, .slice none 0 0]] W fun e w' => e = .returned (.tuple #[.agg #[.int .i64 2, .int .i64 0, .string ⟨#[]⟩, .slice none 0 0, .int .i64 0, .int .i64 0, .int .i64 0, .int .i64 0, .int .i64 0, .int .i64 0], .bool false]) ∧ OwnK L w w' q aw3) := Lib.hid (fun L W q h => own_call h (fun B M k => by
    obtain ⟨a1, a2, a3, a4, a5, a6, a7, a8, a9, a10, a11⟩ := awk_p2
    have := c_write_pipe k a1 a2 4 a3 a4 a5 a6 (by rw [a7]; exact a8) hiT (by unfold maxLen; decide) (Pp.isEmpty_no hiT (by decide)) a9 a10 0 ⟨#[]⟩ none 0 0
    rw [a11, a7] at this
    exact this))
  have j4 : Hid (∀ (L : List (Nat × TypeId × Array Value)) (W : World) (q : Nat), OwnK L w W q aw3 → Calls Tryz.prog 15 #[.pointer (some ⟨q, 0, none⟩), .int .i64 1, .agg #[.int .i64 1, .int .i64 3, .int .i64 9, .string ⟨#[]⟩, .string ⟨#[]⟩, .slice none 0 0]] W fun e w' => e = .returned (.tuple #[.agg #[.int .i64 0, .int .i64 0, .string ⟨#[104, 105]⟩, .slice none 0 0, .int .i64 0, .int .i64 0, .int .i64 0, .int .i64 0, .int .i64 0, .int .i64 0], .bool false]) ∧ OwnK L w w' q aw4) := Lib.hid (fun L W q h => own_call h (fun B M k => by
    obtain ⟨a1, a2, a3, a4, a5, a6, a7, a8, a9, a10, a11⟩ := awk_p3
    have := c_read_pipe k a1 a2 3 a3 a4 a5 a6 (by rw [a7]; exact a8) 9 (by decide) (by decide) a9 a10 ⟨#[]⟩ ⟨#[]⟩ none 0 0
    rw [a11, a7] at this
    exact this))
  have j5 : Hid (∀ (L : List (Nat × TypeId × Array Value)) (W : World) (q : Nat), OwnK L w W q aw4 → Calls Tryz.prog 15 #[.pointer (some ⟨q, 0, none⟩), .int .i64 1, .agg #[.int .i64 1, .int .i64 3, .int .i64 9, .string ⟨#[]⟩, .string ⟨#[]⟩, .slice none 0 0]] W fun e w' => e = .returned (.tuple #[.agg #[.int .i64 0, .int .i64 0, .string ⟨#[]⟩, .slice none 0 0, .int .i64 0, .int .i64 0, .int .i64 0, .int .i64 0, .int .i64 0, .int .i64 0], .bool true]) ∧ OwnK L w w' q aw4) := Lib.hid (fun L W q h => by
    obtain ⟨a1, a2, a3, a4, a5, a6, a7, a8, a9⟩ := awk_p4
    have h' := h
    obtain ⟨B, M, k, h2, h3, h4⟩ := h'
    have := c_read_wait k a1 a2 3 a3 a4 a5 a6 (by rw [a7]; exact a8) 9 (by decide) a9 ⟨#[]⟩ ⟨#[]⟩ none 0 0
    exact this.mono fun e w' ⟨he, hb⟩ => ⟨he, h.below hb⟩)
  go_enter Tryz.func10, Tryz.ntmps10
  go_upto_region 2 with (go_at_call 11; refine (own_new _).mono ?_; rintro e w1 ⟨q, rfl, hO⟩; have hO1 := Lib.hid hO; clear hO)
  go_upto_region 3 with (go_at_call 15; refine (j1.out _ _ _ hO1.out).mono ?_; rintro e w2 ⟨rfl, hO⟩; have hP := Lib.hid hO; clear hO)
  have hO2 := Lib.hid (hP.out.res 44 #[.int .i64 3, .int .i64 4, .string ⟨#[]⟩, .slice none 0 0, .int .i64 0, .int .i64 0, .int .i64 0, .int .i64 0, .int .i64 0, .int .i64 0])
  obtain ⟨r1, hr1⟩ : ∃ r, w2.heap.size = r := ⟨_, rfl⟩
  obtain ⟨V1, hV1⟩ : ∃ V, w2.alloc (.cells #[.int .i64 3, .int .i64 4, .string ⟨#[]⟩, .slice none 0 0, .int .i64 0, .int .i64 0, .int .i64 0, .int .i64 0, .int .i64 0, .int .i64 0] 44) = V := ⟨_, rfl⟩
  rw [hV1, hr1] at hO2
  rw [hV1, hr1]
  clear hV1 hr1 hP
  go_upto_region 4 with (go_at_call 15; refine (j2.out _ _ _ hO2.out).mono ?_; rintro e w3 ⟨rfl, hO⟩; have hP := Lib.hid hO; clear hO)
  have hO3 := Lib.hid (hP.out.res 44 #[.int .i64 2, .int .i64 0, .string ⟨#[]⟩, .slice none 0 0, .int .i64 0, .int .i64 0, .int .i64 0, .int .i64 0, .int .i64 0, .int .i64 0])
  obtain ⟨r2, hr2⟩ : ∃ r, w3.heap.size = r := ⟨_, rfl⟩
  obtain ⟨V2, hV2⟩ : ∃ V, w3.alloc (.cells #[.int .i64 2, .int .i64 0, .string ⟨#[]⟩, .slice none 0 0, .int .i64 0, .int .i64 0, .int .i64 0, .int .i64 0, .int .i64 0, .int .i64 0] 44) = V := ⟨_, rfl⟩
  rw [hV2, hr2] at hO3
  rw [hV2, hr2]
  clear hV2 hr2 hP
  go_upto_region 5 with (go_at_call 15; refine (j3.out _ _ _ hO3.out).mono ?_; rintro e w4 ⟨rfl, hO⟩; have hP := Lib.hid hO; clear hO)
  have hO4 := Lib.hid (hP.out.res 44 #[.int .i64 2, .int .i64 0, .string ⟨#[]⟩, .slice none 0 0, .int .i64 0, .int .i64 0, .int .i64 0, .int .i64 0, .int .i64 0, .int .i64 0])
  obtain ⟨r3, hr3⟩ : ∃ r, w4.heap.size = r := ⟨_, rfl⟩
  obtain ⟨V3, hV3⟩ : ∃ V, w4.alloc (.cells #[.int .i64 2, .int .i64 0, .string ⟨#[]⟩, .slice none 0 0, .int .i64 0, .int .i64 0, .int .i64 0, .int .i64 0, .int .i64 0, .int .i64 0] 44) = V := ⟨_, rfl⟩
  rw [hV3, hr3] at hO4
  rw [hV3, hr3]
  clear hV3 hr3 hP
  go_upto_region 6 with (go_at_call 15; refine (j4.out _ _ _ hO4.out).mono ?_; rintro e w5 ⟨rfl, hO⟩; have hP := Lib.hid hO; clear hO)
  have hO5 := Lib.hid (hP.out.res 44 #[.int .i64 0, .int .i64 0, .string ⟨#[104, 105]⟩, .slice none 0 0, .int .i64 0, .int .i64 0, .int .i64 0, .int .i64 0, .int .i64 0, .int .i64 0])
  obtain ⟨r4, hr4⟩ : ∃ r, w5.heap.size = r := ⟨_, rfl⟩
  obtain ⟨V4, hV4⟩ : ∃ V, w5.alloc (.cells #[.int .i64 0, .int .i64 0, .string ⟨#[104, 105]⟩, .slice none 0 0, .int .i64 0, .int .i64 0, .int .i64 0, .int .i64 0, .int .i64 0, .int .i64 0] 44) = V := ⟨_, rfl⟩
  rw [hV4, hr4] at hO5
  rw [hV4, hr4]
  clear hV4 hr4 hP
  go_upto_region 7 with (go_at_call 15; refine (j5.out _ _ _ hO5.out).mono ?_; rintro e w6 ⟨rfl, hO⟩; have hP := Lib.hid hO; clear hO)
  have hO6 := Lib.hid (hP.out.res 44 #[.int .i64 0, .int .i64 0, .string ⟨#[]⟩, .slice none 0 0, .int .i64 0, .int .i64 0, .int .i64 0, .int .i64 0, .int .i64 0, .int .i64 0])
  obtain ⟨r5, hr5⟩ : ∃ r, w6.heap.size = r := ⟨_, rfl⟩
  obtain ⟨V5, hV5⟩ : ∃ V, w6.alloc (.cells #[.int .i64 0, .int .i64 0, .string ⟨#[]⟩, .slice none 0 0, .int .i64 0, .int .i64 0, .int .i64 0, .int .i64 0, .int .i64 0, .int .i64 0] 44) = V := ⟨_, rfl⟩
  rw [hV5, hr5] at hO6
  rw [hV5, hr5]
  clear hV5 hr5 hP
  have b1 := hO6.out.blk (g := r1) (t := 44) (cs := #[.int .i64 3, .int .i64 4, .string ⟨#[]⟩, .slice none 0 0, .int .i64 0, .int .i64 0, .int .i64 0, .int .i64 0, .int .i64 0, .int .i64 0]) (by simp)
  have b2 := hO6.out.blk (g := r2) (t := 44) (cs := #[.int .i64 2, .int .i64 0, .string ⟨#[]⟩, .slice none 0 0, .int .i64 0, .int .i64 0, .int .i64 0, .int .i64 0, .int .i64 0, .int .i64 0]) (by simp)
  have b3 := hO6.out.blk (g := r3) (t := 44) (cs := #[.int .i64 2, .int .i64 0, .string ⟨#[]⟩, .slice none 0 0, .int .i64 0, .int .i64 0, .int .i64 0, .int .i64 0, .int .i64 0, .int .i64 0]) (by simp)
  have b4 := hO6.out.blk (g := r4) (t := 44) (cs := #[.int .i64 0, .int .i64 0, .string ⟨#[104, 105]⟩, .slice none 0 0, .int .i64 0, .int .i64 0, .int .i64 0, .int .i64 0, .int .i64 0, .int .i64 0]) (by simp)
  have y1 : V5.cell? ⟨r1, 0, none⟩ = some (.int .i64 3) := b1.cell 0
  have y2 : V5.cell? ⟨r1, 1, none⟩ = some (.int .i64 4) := b1.cell 1
  have y3 : V5.cell? ⟨r2, 0, none⟩ = some (.int .i64 2) := b2.cell 0
  have y4 : V5.cell? ⟨r3, 0, none⟩ = some (.int .i64 2) := b3.cell 0
  have y5 : V5.cell? ⟨r4, 2, none⟩ = some (.string ⟨#[104, 105]⟩) := b4.cell 2
  clear b1 b2 b3 b4 j1 j2 j3 j4 j5
  go_wp2_with fail
  go_ret
  obtain ⟨B, M, _, _, h3, _⟩ := hO6.out
  exact ⟨rfl, h3⟩
end
end Go.Proofs.YtmilagppbepnbaaGreat.Kn
