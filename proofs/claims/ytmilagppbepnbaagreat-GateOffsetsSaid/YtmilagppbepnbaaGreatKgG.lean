/- The kernel: letGo. Condition: it lies as stated; the description is there, and an end's pipe. -/
import Derived.Test.YtmilagppbepnbaaGreatKgF
namespace Go.Proofs.YtmilagppbepnbaaGreat.Kn
open Go.RowKit Go.PlainAid
set_option linter.unusedVariables false
set_option linter.unusedSimpArgs false
attribute [local go_sem] Oper.semAt_some
def letM (K : Ker) (m : Nat) : Ker := match ask K.descs m with
  | none => K
  | some D =>
    if 0 < D.refs - 1 then setD K m { D with refs := D.refs - 1 }
    else if D.kind = 2 then setF (cutKD (setD K m { D with refs := D.refs - 1 }) m) (DropM K.fs D.n).2
    else if D.kind = 3 ∨ D.kind = 4 then (match ask K.pipes D.n with
      | some s => if (s.closed (decide (D.kind = 4))).r + (s.closed (decide (D.kind = 4))).t = 0 then cutKX (setX (cutKD (setD K m { D with refs := D.refs - 1 }) m) D.n (s.closed (decide (D.kind = 4)))) D.n else setX (cutKD (setD K m { D with refs := D.refs - 1 }) m) D.n (s.closed (decide (D.kind = 4)))
      | none => cutKD (setD K m { D with refs := D.refs - 1 }) m)
    else cutKD (setD K m { D with refs := D.refs - 1 }) m
theorem upX_same (B : Ix → Nat → Prop) (i : Ix) : upX B i (B i) = B := by
  funext j g
  unfold upX
  split
  · rename_i e; rw [e]
  · rfl
section
variable {w w' : World} {B : Ix → Nat → Prop} {q : Nat} {K : Ker} {M : Mp} {c : Nat}
theorem turn_dc (h : KerIs w B q K M) {n : Nat} {D D' : Dsc} (hD : ask K.descs n = some D) (i : Nat) (v : Value) (hc : (dcells M.bx D).toArray.setIfInBounds i v = (dcells M.bx D').toArray) : KerIs (w.setCell ⟨M.bd n, i, none⟩ v) B q (setD K n D') M := by
  obtain ⟨hB, hS⟩ : DscAt M.bx w (B (.desc n)) (M.bd n) D := h.part (.desc n) D hD
  have k := h.turn (.desc n) (S := B (.desc n)) (K' := setD K n D') (M' := M) (w' := w.setCell ⟨M.bd n, i, none⟩ v) (fun g hg => .inl hg) (fun g hg => by simpa using h.lt _ _ hg) ((Frm.refl _ _).setCell (a := ⟨M.bd n, i, none⟩) (.inl hS) v)
    (fun Q hQ => by
      have h1 : ask (put1 K.descs n D') n = some Q := hQ
      rw [ask_put hD, if_pos rfl] at h1
      cases h1
      exact ⟨by rw [← hc]; exact hB.set_ i v, hS⟩) (fun j hj hp => by
      cases j with
      | own =>
        obtain ⟨xv, dv, rv, o1, o2, k⟩ := hp
        exact ⟨xv, dv, rv, o1, o2, k.blk, k.rx, by
          show World.ownsRow _ 0 _ 2 dv (put1 K.descs n D').length (flat rcs (rowsOf (put1 K.descs n D') M.bd))
          rw [put1_len, put1_rows]; exact k.rd, k.rr, k.p1, k.p2, k.sq, k.sx, k.sd, k.sr, k.s1, k.s2, k.ne⟩
      | fs => exact hp
      | pipe m => exact hp
      | proc m => exact hp
      | desc m =>
        intro Q hQ
        have h1 : ask (put1 K.descs n D') m = some Q := hQ
        rw [ask_put hD, if_neg (fun e => hj (by rw [e]))] at h1
        exact hp Q h1) (nmbD h.num n D')
  rw [upX_same] at k
  exact k
theorem turn_X (h : KerIs w B q K M) {n : Nat} {s s' : Pp.St} (hs : ask K.pipes n = some s) (h' : PipAt w' (B (.pipe n)) (M.bx n) s') (hF : Frm (B (.pipe n)) w w') : KerIs w' B q (setX K n s') M := by
  have k := h.turn (.pipe n) (S := B (.pipe n)) (K' := setX K n s') (M' := M) (w' := w') (fun g hg => .inl hg) (fun g hg => Nat.lt_of_lt_of_le (h.lt _ _ hg) hF.size) hF
    (fun Q hQ => by
      have h1 : ask (put1 K.pipes n s') n = some Q := hQ
      rw [ask_put hs, if_pos rfl] at h1
      cases h1
      exact h') (fun j hj hp => by
      cases j with
      | own =>
        obtain ⟨xv, dv, rv, o1, o2, k⟩ := hp
        exact ⟨xv, dv, rv, o1, o2, k.blk, by
          show World.ownsRow _ 0 _ 2 xv (put1 K.pipes n s').length (flat rcs (rowsOf (put1 K.pipes n s') M.bx))
          rw [put1_len, put1_rows]; exact k.rx, k.rd, k.rr, k.p1, k.p2, k.sq, k.sx, k.sd, k.sr, k.s1, k.s2, k.ne⟩
      | fs => exact hp
      | desc m => exact hp
      | proc m => exact hp
      | pipe m =>
        intro Q hQ
        have h1 : ask (put1 K.pipes n s') m = some Q := hQ
        rw [ask_put hs, if_neg (fun e => hj (by rw [e]))] at h1
        exact hp Q h1) (nmbX h.num n s')
  rw [upX_same] at k
  exact k
/-- The description is gone: its block still holds what it held. -/
structure LetAt (w0 : World) (B0 : Ix → Nat → Prop) (q : Nat) (K : Ker) (M : Mp) (m d : Nat) (D : Dsc) (W : World) : Prop where
  is_ : ∃ B', KerIs W B' q K M ∧ (∀ g, AllX B' g → AllX B0 g ∨ w0.heap.size ≤ g) ∧ (∀ j, j ≠ .own → B' j = B0 j)
  frm : Frm (AllX B0) w0 W
  blk : Blk W d 91 (dcells M.bx D).toArray
  at_ : B0 (.desc m) d
theorem LetAt.below {w0 W W' : World} {B0 : Ix → Nat → Prop} {m d : Nat} {D : Dsc} (h : LetAt w0 B0 q K M m d D W) (hb : Below W.heap.size W W') : LetAt w0 B0 q K M m d D W' := by
  obtain ⟨B', h1, h2, h3⟩ := h.is_
  exact ⟨⟨B', h1.below hb, h2, h3⟩, h.frm.below hb, (hb.block d h.blk.lt).trans h.blk, h.at_⟩
theorem LetAt.kp {w0 W : World} {B0 : Ix → Nat → Prop} {K0 : Ker} {m d : Nat} {D : Dsc} (h : LetAt w0 B0 q K M m d D W) (h1 : K0.lastX ≤ K.lastX) (h2 : K0.lastD ≤ K.lastD) (h3 : K0.lastR ≤ K.lastR) : KP (AllX B0) w0 K0 M W q K := by
  obtain ⟨B', k1, k2, k3⟩ := h.is_
  exact ⟨B', M, k1, MExt.refl _ _, h1, h2, h3, k2, h.frm⟩
set_option maxRecDepth 100000 in
set_option maxHeartbeats 8000000 in
theorem letGo_any (h : KerIs w B q K M) (hw : WF c K.fs) (hc : c ≤ 5000) {m : Nat} {D : Dsc} (hD : ask K.descs m = some D) (hr : -1000000 ≤ D.refs ∧ D.refs ≤ 1000000)
    (hp : D.kind = 3 ∨ D.kind = 4 → ∃ s, D.pipe = some D.n ∧ ask K.pipes D.n = some s ∧ s.r ≤ 1000000 ∧ s.t ≤ 1000000) :
    Calls Tryz.prog 160 #[.pointer (some ⟨q, 0, none⟩), .int .i64 m] w fun e w' => e = .returned (.tuple #[]) ∧ KP (AllX B) w K M w' q (letM K m) := by
  obtain ⟨hB, hS⟩ : DscAt M.bx w (B (.desc m)) (M.bd m) D := h.part (.desc m) D hD
  have hg := getD_any h (m : Int)
  have hask : askI K.descs (m : Int) = some m := by unfold askI; rw [if_pos (by omega), Int.toNat_natCast, hD]; rfl
  rw [hask] at hg
  have hturn := Lib.hid (fun (W : World) (hW : Below w.heap.size w W) => turn_dc (h.below hW) hD 3 (.int .i64 (D.refs - 1)) (D' := { D with refs := D.refs - 1 }) rfl)
  obtain ⟨d, hd⟩ : ∃ d, M.bd m = d := ⟨_, rfl⟩
  rw [hd] at hB hS hturn
  have hgH : Hid (Calls Tryz.prog 189 #[.pointer (some ⟨q, 3, none⟩), .int .i64 m] w fun e w' => e = .returned (.pointer (some ⟨d, 0, none⟩)) ∧ Below w.heap.size w w') := Lib.hid (by rw [← hd]; exact hg)
  have hBH := Lib.hid hB
  have hSH := Lib.hid hS
  have hH := Lib.hid h
  have hDH := Lib.hid hD
  have hwH := Lib.hid hw
  have hpH := Lib.hid hp
  have hlt := hB.lt
  by_cases hpos : 0 < D.refs - 1
  · have hl : letM K m = setD K m { D with refs := D.refs - 1 } := by unfold letM; rw [hD]; dsimp only; rw [if_pos hpos]
    rw [hl]
    have d1 : decide (1 < D.refs) = true := decide_eq_true (by omega)
    obtain ⟨rf, hrf⟩ : ∃ rf, D.refs = rf := ⟨_, rfl⟩
    have c3 : w.cell? ⟨d, 3, none⟩ = some (.int .i64 rf) := by rw [← hrf]; exact hB.cell 3
    rw [hrf] at d1 hr hpos
    have hrfH := Lib.hid hrf
    have k3 := Lib.hid c3
    clear h hg hask hd hB hS hD hw hp hl c3 hrf
    go_enter Tryz.func160, Tryz.ntmps160
    go_wp2_with (go_at_call 189; refine hgH.out.mono ?_; rintro e w1 ⟨rfl, hb⟩; have e3 : w1.cell? ⟨d, 3, none⟩ = some (.int .i64 rf) := (hb.cell hlt).trans k3.out; have f3 : w1.frozen? ⟨d, 3, none⟩ = false := (hBH.out.keep (hb.block d hlt)).frozen 3; have hbH := Lib.hid hb; clear hb)
    refine bodyPost_ret (results_none rfl _ _ _) rfl ?_
    have ht := hturn.out _ hbH.out
    rw [hrfH.out] at ht
    rw [hrfH.out]
    exact ⟨rfl, B, M, ht, MExt.refl _ _, Nat.le_refl _, Nat.le_refl _, Nat.le_refl _, fun g hg => .inl hg, (Frm.of_below hbH.out).setCell (a := ⟨d, 3, none⟩) (.inl ⟨_, hSH.out⟩) _⟩
  · have d1 : decide (1 < D.refs) = false := decide_eq_false (by omega)
    obtain ⟨rf, hrf⟩ : ∃ rf, D.refs = rf := ⟨_, rfl⟩
    have c3 : w.cell? ⟨d, 3, none⟩ = some (.int .i64 rf) := by rw [← hrf]; exact hB.cell 3
    rw [hrf] at d1 hr
    have hrfH := Lib.hid hrf
    have hposH := Lib.hid hpos
    have k3 := Lib.hid c3
    have hnums : Hid (K.lastX ≤ K.lastX) := Lib.hid (Nat.le_refl _)
    obtain ⟨K2, hK2⟩ : ∃ K2, cutKD (setD K m { D with refs := D.refs - 1 }) m = K2 := ⟨_, rfl⟩
    have hfs2 : Hid (K2.fs = K.fs ∧ K2.pipes = K.pipes ∧ K2.lastX = K.lastX ∧ K2.lastD = K.lastD ∧ K2.lastR = K.lastR) := Lib.hid (by rw [← hK2]; exact ⟨rfl, rfl, rfl, rfl, rfl⟩)
    have hlet : Hid (letM K m = if D.kind = 2 then setF K2 (DropM K.fs D.n).2 else if D.kind = 3 ∨ D.kind = 4 then (match ask K.pipes D.n with
      | some s => if (s.closed (decide (D.kind = 4))).r + (s.closed (decide (D.kind = 4))).t = 0 then cutKX (setX K2 D.n (s.closed (decide (D.kind = 4)))) D.n else setX K2 D.n (s.closed (decide (D.kind = 4)))
      | none => K2) else K2) := Lib.hid (by
        unfold letM
        rw [hD]
        dsimp only
        rw [if_neg hpos, hK2])
    have hK2H := Lib.hid hK2
    clear h hg hask hd hB hS hD hw hp c3 hrf hpos hK2
    go_enter Tryz.func160, Tryz.ntmps160
    go_upto_region 3 with (go_at_call 189; refine hgH.out.mono ?_; rintro e w1 ⟨rfl, hb⟩; have e3 : w1.cell? ⟨d, 3, none⟩ = some (.int .i64 rf) := (hb.cell hlt).trans k3.out; have f3 : w1.frozen? ⟨d, 3, none⟩ = false := (hBH.out.keep (hb.block d hlt)).frozen 3; have hbH := Lib.hid hb; clear hb)
    have ht := hturn.out _ hbH.out
    rw [hrfH.out] at ht
    have hBd1 : Blk (w1.setCell ⟨d, 3, none⟩ (.int .i64 (rf - 1))) d 91 (dcells M.bx { D with refs := rf - 1 }).toArray := by
      have := (hBH.out.keep (hbH.out.block d hlt)).set_ 3 (.int .i64 (rf - 1))
      exact this
    have hF1 : Frm (AllX B) w (w1.setCell ⟨d, 3, none⟩ (.int .i64 (rf - 1))) := (Frm.of_below hbH.out).setCell (a := ⟨d, 3, none⟩) (.inl ⟨_, hSH.out⟩) _
    obtain ⟨W2, hW2⟩ : ∃ W, w1.setCell ⟨d, 3, none⟩ (.int .i64 (rf - 1)) = W := ⟨_, rfl⟩
    rw [hW2] at ht hBd1 hF1 ⊢
    have hcut := Lib.hid (cutD_any ht m)
    have htH := Lib.hid ht
    have hBdH := Lib.hid hBd1
    have hFH := Lib.hid hF1
    clear hW2 ht hBd1 hF1 e3 f3 hturn hgH
    go_upto_region 4 with (go_at_call 227; refine hcut.out.mono ?_; rintro e w3 ⟨rfl, B3, hk3, ho3, hF3, hj3⟩
                           have hL : LetAt w B q K2 M m d { D with refs := rf - 1 } w3 := by
                             refine ⟨⟨B3, by rw [← hK2H.out, hrfH.out]; exact hk3, fun g hg => (ho3 g hg).imp_right (fun h9 => Nat.le_trans hFH.out.size h9), hj3⟩, hFH.out.trans (fun g hg => .inl ⟨_, hg⟩) hF3, hBdH.out.keep (hF3.block d hBdH.out.lt (fun hh => by
                               have := hH.out.apart _ _ _ hh hSH.out
                               cases this)), hSH.out⟩
                           have hLH := Lib.hid hL; clear hL hk3 ho3 hF3 hj3)
    have c0 : w3.cell? ⟨d, 0, none⟩ = some (.int .i64 D.kind) := hLH.out.blk.cell 0
    have c1 : w3.cell? ⟨d, 1, none⟩ = some (.int .i64 D.n) := hLH.out.blk.cell 1
    have hkp : Hid (∀ (w4 : World) (B3 : Ix → Nat → Prop) (K4 : Ker), (∀ g, AllX B3 g → AllX B g ∨ w.heap.size ≤ g) → KP (AllX B3) w3 K2 M w4 q K4 → KP (AllX B) w K M w4 q K4) := Lib.hid (fun w4 B3 K4 h1 h2 => KP.trans h1 hLH.out.frm (MExt.refl _ _) (by rw [hfs2.out.2.2.1]; exact Nat.le_refl _) (by rw [hfs2.out.2.2.2.1]; exact Nat.le_refl _) (by rw [hfs2.out.2.2.2.2]; exact Nat.le_refl _) h2)
    clear hcut
    by_cases hk2 : D.kind = 2
    · have hl2 : Hid (letM K m = setF K2 (DropM K.fs D.n).2) := Lib.hid (by rw [hlet.out, if_pos hk2])
      clear hlet
      obtain ⟨B3, h3, ho3, hj3⟩ := hLH.out.is_
      have hdrop := Lib.hid (fun (W : World) (hW : Below w3.heap.size w3 W) => fDrop_any (h3.below hW) (by rw [hfs2.out.1]; exact hwH.out) hc (D.n : Int))
      obtain ⟨xv, dv, rv, o1, o2, hbk⟩ := h3.blkK
      have q0 : w3.cell? ⟨q, 0, none⟩ = some (.pointer (some ⟨M.fp, 0, none⟩)) := hbk.cell 0
      have q0d : w3.drew.cell? ⟨q, 0, none⟩ = some (.pointer (some ⟨M.fp, 0, none⟩)) := q0
      have c1d : w3.drew.cell? ⟨d, 1, none⟩ = some (.int .i64 D.n) := c1
      have ho3H := Lib.hid ho3
      have hfsD : Hid ((DropM K2.fs D.n).2 = (DropM K.fs D.n).2) := Lib.hid (by rw [hfs2.out.1])
      rw [hk2] at c0
      clear h3 ho3 hj3 hbk hk2
      go_upto_region 6 with fail
      go_region_with (first | (go_at_call 228; refine (hdrop.out _ (Below.refl _ _).drew).mono ?_; rintro e w4 ⟨rfl, hk4⟩; have hk4H := Lib.hid hk4; clear hk4) | (go_at_call 228; refine (hdrop.out _ (Below.refl _ _)).mono ?_; rintro e w4 ⟨rfl, hk4⟩; have hk4H := Lib.hid hk4; clear hk4))
      all_goals
        go_wp2_with fail
        first | go_end0 | refine bodyPost_ret (results_none rfl _ _ _) rfl ?_
        rw [hl2.out]
        refine ⟨rfl, hkp.out _ B3 _ ho3H.out ?_⟩
        have h5 := hk4H.out
        rw [hfsD.out] at h5
        obtain ⟨B5, M5, k1, k2, k3, k4, k5, k6, k7⟩ := h5
        exact ⟨B5, M5, k1, k2, k3, k4, k5, k6, ⟨k7.os, k7.tape, k7.output, k7.size, k7.block⟩⟩
    · by_cases hk34 : D.kind = 3 ∨ D.kind = 4
      · obtain ⟨s, hpi, hask2, hsr, hst⟩ := hpH.out hk34
        obtain ⟨B3, h3, ho3, hj3⟩ := hLH.out.is_
        have hask3 : ask K2.pipes D.n = some s := by rw [hfs2.out.2.1]; exact hask2
        obtain ⟨rb, hPi, hSP, hSR⟩ : PipAt w3 (B3 (.pipe D.n)) (M.bx D.n) s := h3.part (.pipe D.n) s hask3
        obtain ⟨P, hPe⟩ : ∃ P, M.bx D.n = P := ⟨_, rfl⟩
        rw [hPe] at hPi hSP
        have hdP : d ≠ P := fun e => by
          have h8 : B3 (.desc m) d := by rw [hj3 _ (by simp)]; exact hLH.out.at_
          have := h3.apart _ _ _ h8 (e ▸ hSP)
          cases this
        have hdR : d ≠ rb := fun e => by
          have h8 : B3 (.desc m) d := by rw [hj3 _ (by simp)]; exact hLH.out.at_
          have := h3.apart _ _ _ h8 (e ▸ hSR)
          cases this
        have c5 : w3.cell? ⟨d, 5, none⟩ = some (.pointer (some ⟨P, 0, none⟩)) := by
          have := hLH.out.blk.cell 5
          rw [this, ← hPe]
          show some (ptrV (D.pipe.map M.bx)) = _
          rw [hpi]; rfl
        obtain ⟨b, hb⟩ : ∃ b, decide (D.kind = 4) = b := ⟨_, rfl⟩
        have hclose := Lib.hid (fun (W : World) (hW : Below w3.heap.size w3 W) => Pp.close_any (P := P) (B := rb) (s := s) b W (hPi.keep ⟨hW.block P (h3.lt _ _ hSP), hW.block rb (h3.lt _ _ hSR)⟩) (by omega) (by omega))
        have hl2 : Hid (letM K m = if (s.closed b).r + (s.closed b).t = 0 then cutKX (setX K2 D.n (s.closed b)) D.n else setX K2 D.n (s.closed b)) := Lib.hid (by rw [hlet.out, if_neg hk2, if_pos hk34, hask2, ← hb])
        clear hlet
        have hx4 := Lib.hid (fun (W : World) (h1 : Pp.PipeAt W P rb (s.closed b)) (h2 : Pp.Frame P rb w3 W) => turn_X (w' := W) h3 hask3 (s' := s.closed b) (by rw [hPe]; exact ⟨rb, h1, hSP, hSR⟩) (frm_of_pp h2 hSP hSR))
        have hfrx := Lib.hid (fun (W : World) (h2 : Pp.Frame P rb w3 W) => (frm_of_pp h2 (S := AllX B3) ⟨_, hSP⟩ ⟨_, hSR⟩))
        have hbd : Below w3.heap.size w3 w3.drew := (Below.refl _ _).drew
        have hBw3 := Lib.hid hLH.out.blk
        have ho3H := Lib.hid ho3
        clear h3 ho3 hj3 hPi hPe hpi hask2 hask3 hSP hSR
        rcases hk34 with e34 | e34
        · obtain rfl : b = false := by rw [← hb, e34]; rfl
          rw [e34] at c0
          have c0d : w3.drew.cell? ⟨d, 0, none⟩ = some (.int .i64 ((3 : Nat) : Int)) := c0
          have c5d : w3.drew.cell? ⟨d, 5, none⟩ = some (.pointer (some ⟨P, 0, none⟩)) := c5
          clear hb hk2 e34
          go_upto_region 9 with fail
          go_region_held3 (fun Z => Z.cell? ⟨d, 0, none⟩ = some (.int .i64 ((3 : Nat) : Int)) ∧ Z.cell? ⟨d, 5, none⟩ = some (.pointer (some ⟨P, 0, none⟩))) (first | exact ⟨c0, c5⟩ | exact ⟨c0d, c5d⟩ | exact ⟨u0, u5⟩ | go_keep | fail)
            ((first
              | (go_at_call 229; refine (hclose.out _ hbd).mono ?_; rintro e w4 ⟨rfl, hP4, hF4⟩
                 have hblk4 : Blk w4 d 91 (dcells M.bx { D with refs := rf - 1 }).toArray := hBw3.out.keep (hF4.block d hBw3.out.lt hdP hdR)
                 have u0 : w4.cell? ⟨d, 0, none⟩ = some (.int .i64 ((3 : Nat) : Int)) := (World.cell?_of_block (hF4.block d hBw3.out.lt hdP hdR)).trans c0
                 have u5 : w4.cell? ⟨d, 5, none⟩ = some (.pointer (some ⟨P, 0, none⟩)) := (World.cell?_of_block (hF4.block d hBw3.out.lt hdP hdR)).trans c5
                 have u1 : w4.cell? ⟨d, 1, none⟩ = some (.int .i64 D.n) := hblk4.cell 1
                 have hP4H := Lib.hid hP4
                 have hF4H : Hid (Pp.Frame P rb w3 w4) := Lib.hid ⟨hF4.os, hF4.tape, hF4.output, hF4.size, hF4.block⟩
                 clear hP4 hF4 hblk4)
              | fail))
          all_goals
            have hturn4 := hx4.out _ hP4H.out hF4H.out
            have hends := Lib.hid (Pp.endsOf_any w4 hP4H.out)
            have hsr2 : (s.closed false).r ≤ 1000000 := by show s.r - 1 ≤ _; omega
            have hst2 : (s.closed false).t ≤ 1000000 := by show s.t ≤ _; omega
            obtain ⟨s', hs'⟩ : ∃ s', s.closed false = s' := ⟨_, rfl⟩
            rw [hs'] at hturn4 hends hl2 hsr2 hst2
            have hcutx := Lib.hid (fun (n0 : Nat) => cutX_any (w := w4.drewN n0) (hturn4.keep (Nat.le_refl _) (fun _ _ _ => rfl)) D.n)
            have hcutx1 := Lib.hid (fun (n0 : Nat) => cutX_any (w := (w4.drewN n0).drew) (hturn4.keep (Nat.le_refl _) (fun _ _ _ => rfl)) D.n)
            have hturn4H := Lib.hid hturn4
            have hsz4 : w3.heap.size ≤ w4.heap.size := hF4H.out.size
            have hfr4 : Frm (AllX B3) w3 w4 := hfrx.out _ hF4H.out
            have hfr4H := Lib.hid hfr4
            clear hturn4 hfr4 hs'
            by_cases hz : s'.r + s'.t = 0
            · have hl3 : Hid (letM K m = cutKX (setX K2 D.n s') D.n) := Lib.hid (by rw [hl2.out, if_pos hz])
              have z1 : ((s'.r : Int) + (s'.t : Int) == 0) = true := by rw [beq_iff_eq]; omega
              go_upto_region 12 with (go_at_call 93; refine hends.out.mono ?_; rintro e w5 ⟨rfl, n5, rfl⟩; have v1 : (w4.drewN n5).cell? ⟨d, 1, none⟩ = some (.int .i64 D.n) := u1; have v1d : (w4.drewN n5).drew.cell? ⟨d, 1, none⟩ = some (.int .i64 D.n) := u1)
              go_region_with (first
                | (go_at_call 230; refine (hcutx1.out _).mono ?_; rintro e w6 ⟨rfl, B6, hk6, ho6, hF6, _⟩; have hk6H := Lib.hid hk6; have ho6H := Lib.hid ho6; have hF6H := Lib.hid hF6; clear hk6 ho6 hF6)
                | (go_at_call 230; refine (hcutx.out _).mono ?_; rintro e w6 ⟨rfl, B6, hk6, ho6, hF6, _⟩; have hk6H := Lib.hid hk6; have ho6H := Lib.hid ho6; have hF6H := Lib.hid hF6; clear hk6 ho6 hF6))
              all_goals
                go_wp2_with fail
                first | go_end0 | refine bodyPost_ret (results_none rfl _ _ _) rfl ?_
                rw [hl3.out]
                refine ⟨rfl, hkp.out _ B3 _ ho3H.out ?_⟩
                have hF6' : Frm (B3 .own) w4 w6 := ⟨hF6H.out.os, hF6H.out.tape, hF6H.out.output, hF6H.out.size, hF6H.out.block⟩
                exact ⟨B6, M, hk6H.out, MExt.refl _ _, Nat.le_refl _, Nat.le_refl _, Nat.le_refl _, fun g hg => (ho6H.out g hg).imp_right (fun h9 => Nat.le_trans hsz4 h9), hfr4H.out.trans (fun g hg => .inl ⟨_, hg⟩) hF6'⟩
            · have hl3 : Hid (letM K m = setX K2 D.n s') := Lib.hid (by rw [hl2.out, if_neg hz])
              have z1 : ((s'.r : Int) + (s'.t : Int) == 0) = false := by rw [beq_eq_false_iff_ne]; omega
              go_wp2_with (go_at_call 93; refine hends.out.mono ?_; rintro e w5 ⟨rfl, n5, rfl⟩)
              first | go_end0 | refine bodyPost_ret (results_none rfl _ _ _) rfl ?_
              rw [hl3.out]
              refine ⟨rfl, hkp.out _ B3 _ ho3H.out ?_⟩
              exact ⟨B3, M, hturn4H.out.keep (Nat.le_refl _) (fun _ _ _ => rfl), MExt.refl _ _, Nat.le_refl _, Nat.le_refl _, Nat.le_refl _, fun g hg => .inl hg, ⟨hfr4H.out.os, hfr4H.out.tape, hfr4H.out.output, hfr4H.out.size, hfr4H.out.block⟩⟩
        · obtain rfl : b = true := by rw [← hb, e34]; rfl
          rw [e34] at c0
          have c0d : w3.drew.cell? ⟨d, 0, none⟩ = some (.int .i64 ((4 : Nat) : Int)) := c0
          have c5d : w3.drew.cell? ⟨d, 5, none⟩ = some (.pointer (some ⟨P, 0, none⟩)) := c5
          clear hb hk2 e34
          go_upto_region 9 with fail
          go_region_held3 (fun Z => Z.cell? ⟨d, 0, none⟩ = some (.int .i64 ((4 : Nat) : Int)) ∧ Z.cell? ⟨d, 5, none⟩ = some (.pointer (some ⟨P, 0, none⟩))) (first | exact ⟨c0, c5⟩ | exact ⟨c0d, c5d⟩ | exact ⟨u0, u5⟩ | go_keep | fail)
            ((first
              | (go_at_call 229; refine (hclose.out _ hbd).mono ?_; rintro e w4 ⟨rfl, hP4, hF4⟩
                 have hblk4 : Blk w4 d 91 (dcells M.bx { D with refs := rf - 1 }).toArray := hBw3.out.keep (hF4.block d hBw3.out.lt hdP hdR)
                 have u0 : w4.cell? ⟨d, 0, none⟩ = some (.int .i64 ((4 : Nat) : Int)) := (World.cell?_of_block (hF4.block d hBw3.out.lt hdP hdR)).trans c0
                 have u5 : w4.cell? ⟨d, 5, none⟩ = some (.pointer (some ⟨P, 0, none⟩)) := (World.cell?_of_block (hF4.block d hBw3.out.lt hdP hdR)).trans c5
                 have u1 : w4.cell? ⟨d, 1, none⟩ = some (.int .i64 D.n) := hblk4.cell 1
                 have hP4H := Lib.hid hP4
                 have hF4H : Hid (Pp.Frame P rb w3 w4) := Lib.hid ⟨hF4.os, hF4.tape, hF4.output, hF4.size, hF4.block⟩
                 clear hP4 hF4 hblk4)
              | fail))
          all_goals
            have hturn4 := hx4.out _ hP4H.out hF4H.out
            have hends := Lib.hid (Pp.endsOf_any w4 hP4H.out)
            have hsr2 : (s.closed true).r ≤ 1000000 := by show s.r ≤ _; omega
            have hst2 : (s.closed true).t ≤ 1000000 := by show s.t - 1 ≤ _; omega
            obtain ⟨s', hs'⟩ : ∃ s', s.closed true = s' := ⟨_, rfl⟩
            rw [hs'] at hturn4 hends hl2 hsr2 hst2
            have hcutx := Lib.hid (fun (n0 : Nat) => cutX_any (w := w4.drewN n0) (hturn4.keep (Nat.le_refl _) (fun _ _ _ => rfl)) D.n)
            have hcutx1 := Lib.hid (fun (n0 : Nat) => cutX_any (w := (w4.drewN n0).drew) (hturn4.keep (Nat.le_refl _) (fun _ _ _ => rfl)) D.n)
            have hturn4H := Lib.hid hturn4
            have hsz4 : w3.heap.size ≤ w4.heap.size := hF4H.out.size
            have hfr4 : Frm (AllX B3) w3 w4 := hfrx.out _ hF4H.out
            have hfr4H := Lib.hid hfr4
            clear hturn4 hfr4 hs'
            by_cases hz : s'.r + s'.t = 0
            · have hl3 : Hid (letM K m = cutKX (setX K2 D.n s') D.n) := Lib.hid (by rw [hl2.out, if_pos hz])
              have z1 : ((s'.r : Int) + (s'.t : Int) == 0) = true := by rw [beq_iff_eq]; omega
              go_upto_region 12 with (go_at_call 93; refine hends.out.mono ?_; rintro e w5 ⟨rfl, n5, rfl⟩; have v1 : (w4.drewN n5).cell? ⟨d, 1, none⟩ = some (.int .i64 D.n) := u1; have v1d : (w4.drewN n5).drew.cell? ⟨d, 1, none⟩ = some (.int .i64 D.n) := u1)
              go_region_with (first
                | (go_at_call 230; refine (hcutx1.out _).mono ?_; rintro e w6 ⟨rfl, B6, hk6, ho6, hF6, _⟩; have hk6H := Lib.hid hk6; have ho6H := Lib.hid ho6; have hF6H := Lib.hid hF6; clear hk6 ho6 hF6)
                | (go_at_call 230; refine (hcutx.out _).mono ?_; rintro e w6 ⟨rfl, B6, hk6, ho6, hF6, _⟩; have hk6H := Lib.hid hk6; have ho6H := Lib.hid ho6; have hF6H := Lib.hid hF6; clear hk6 ho6 hF6))
              all_goals
                go_wp2_with fail
                first | go_end0 | refine bodyPost_ret (results_none rfl _ _ _) rfl ?_
                rw [hl3.out]
                refine ⟨rfl, hkp.out _ B3 _ ho3H.out ?_⟩
                have hF6' : Frm (B3 .own) w4 w6 := ⟨hF6H.out.os, hF6H.out.tape, hF6H.out.output, hF6H.out.size, hF6H.out.block⟩
                exact ⟨B6, M, hk6H.out, MExt.refl _ _, Nat.le_refl _, Nat.le_refl _, Nat.le_refl _, fun g hg => (ho6H.out g hg).imp_right (fun h9 => Nat.le_trans hsz4 h9), hfr4H.out.trans (fun g hg => .inl ⟨_, hg⟩) hF6'⟩
            · have hl3 : Hid (letM K m = setX K2 D.n s') := Lib.hid (by rw [hl2.out, if_neg hz])
              have z1 : ((s'.r : Int) + (s'.t : Int) == 0) = false := by rw [beq_eq_false_iff_ne]; omega
              go_wp2_with (go_at_call 93; refine hends.out.mono ?_; rintro e w5 ⟨rfl, n5, rfl⟩)
              first | go_end0 | refine bodyPost_ret (results_none rfl _ _ _) rfl ?_
              rw [hl3.out]
              refine ⟨rfl, hkp.out _ B3 _ ho3H.out ?_⟩
              exact ⟨B3, M, hturn4H.out.keep (Nat.le_refl _) (fun _ _ _ => rfl), MExt.refl _ _, Nat.le_refl _, Nat.le_refl _, Nat.le_refl _, fun g hg => .inl hg, ⟨hfr4H.out.os, hfr4H.out.tape, hfr4H.out.output, hfr4H.out.size, hfr4H.out.block⟩⟩
      · have hl2 : Hid (letM K m = K2) := Lib.hid (by rw [hlet.out, if_neg hk2, if_neg hk34])
        clear hlet
        have e2 : ((D.kind : Int) == 2) = false := by rw [beq_eq_false_iff_ne]; omega
        have e3 : ((D.kind : Int) == 3) = false := by rw [beq_eq_false_iff_ne]; omega
        have e4 : ((D.kind : Int) == 4) = false := by rw [beq_eq_false_iff_ne]; omega
        obtain ⟨kd, hkd⟩ : ∃ kd, (D.kind : Int) = kd := ⟨_, rfl⟩
        rw [hkd] at c0 e2 e3 e4
        clear hk2 hk34 hkd
        go_wp2_with fail
        first | go_end0 | refine bodyPost_ret (results_none rfl _ _ _) rfl ?_
        rw [hl2.out]
        exact ⟨rfl, hLH.out.kp (by rw [hfs2.out.2.2.1]; exact Nat.le_refl _) (by rw [hfs2.out.2.2.2.1]; exact Nat.le_refl _) (by rw [hfs2.out.2.2.2.2]; exact Nat.le_refl _)⟩
end
end Go.Proofs.YtmilagppbepnbaaGreat.Kn
