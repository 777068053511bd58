/- The kernel: newPipe, dup2. Condition: it lies as stated; ends' pipes have numbers that were given. -/
import Derived.Test.YtmilagppbepnbaaGreatKgI
namespace Go.Proofs.YtmilagppbepnbaaGreat.Kn
open Go.RowKit Go.PlainAid
set_option linter.unusedVariables false
set_option linter.unusedSimpArgs false
attribute [local go_sem] Oper.semAt_some
def endD (k z : Nat) : Dsc := ⟨k, z, 0, 0, 0, some z, ⟨#[]⟩⟩
def npipeM (K : Ker) (n : Nat) (P : Prc) : Int × Int × Int × Ker :=
  if tfreeM P.tab < 2 then (0, 0, 24, K)
  else
    let K4 := putX K ⟨64, 1, 1, []⟩
    let P5 : Prc := { P with tab := (tputM P.tab ((K.lastD : Int) + 1) 0).2.2 }
    let K5 := instM K4 n P (endD 3 (K.lastX + 1))
    ((tputM P.tab ((K.lastD : Int) + 1) 0).1, (tputM P5.tab ((K5.lastD : Int) + 1) 0).1, 0, instM K5 n P5 (endD 4 (K.lastX + 1)))
section
variable {w w' : World} {B : Ix → Nat → Prop} {q : Nat} {K : Ker} {M : Mp} {c : Nat}
theorem inst_ask {K : Ker} {n : Nat} {P : Prc} (hP : ask K.procs n = some P) (D : Dsc) : ask (instM K n P D).procs n = some { P with tab := (tputM P.tab ((K.lastD : Int) + 1) 0).2.2 } := by
  show ask (put1 K.procs n _) n = _
  rw [ask_put hP, if_pos rfl]
theorem proc_le (h : Nmb K) {n : Nat} {P : Prc} (hP : ask K.procs n = some P) : n ≤ K.lastR := (h.lr _ (ask_mem hP)).2
/-- install, of a description that has just been made. -/
theorem inst_new (h : KerIs w B q K M) {n : Nat} {P : Prc} (hP : ask K.procs n = some P) (D : Dsc) (hlast : K.lastD < 90000) (v : Value) (hv : ptrV (D.pipe.map M.bx) = v) (W : World) (hW : Below w.heap.size w W) :
    Calls Tryz.prog 31 #[.pointer (some ⟨q, 0, none⟩), .pointer (some ⟨M.br n, 0, none⟩), .pointer (some ⟨W.heap.size, 0, none⟩)] (W.alloc (.cells #[.int .i64 D.kind, .int .i64 D.n, .int .i64 D.at_, .int .i64 D.refs, .int .i64 D.flags, v, .string D.text] 91)) fun e w' => e = .returned (.int .i64 (tputM P.tab ((K.lastD : Int) + 1) 0).1) ∧ KP (AllX B) w K M w' q (instM K n P D) := by
  have hk := h.below hW
  refine (install_any (w := W.alloc (.cells #[.int .i64 D.kind, .int .i64 D.n, .int .i64 D.at_, .int .i64 D.refs, .int .i64 D.flags, v, .string D.text] 91)) (S := fun g => g = W.heap.size) (b := W.heap.size) (D := D) (hk.below ((Below.refl _ _).alloc (Nat.le_refl _) _)) hP ⟨by rw [← hv]; exact Blk.new W _ _, rfl⟩ (fun j g hg e => by
    have := hk.lt j g hg
    omega) (fun g hg => by rw [hg, World.size_alloc]; omega) hlast).mono fun e w2 ⟨he, hk2⟩ => ⟨he, ?_⟩
  obtain ⟨B2, M2, k1, k2, k3, k4, k5, k6, k7⟩ := hk2
  have hsz := hW.size
  have hO : ∀ g, (AllX B g ∨ g = W.heap.size) → AllX B g ∨ w.heap.size ≤ g := fun g hg => hg.imp_right (fun e => by rw [e]; exact hsz)
  have hF1 : Frm (AllX B) w (W.alloc (.cells #[.int .i64 D.kind, .int .i64 D.n, .int .i64 D.at_, .int .i64 D.refs, .int .i64 D.flags, v, .string D.text] 91)) := (Frm.of_below hW).alloc _
  exact ⟨B2, M2, k1, k2, k3, k4, k5, fun g hg => (k6 g hg).elim (hO g) (fun h9 => .inr (by rw [World.size_alloc] at h9; omega)), hF1.trans hO k7⟩
set_option maxRecDepth 100000 in
set_option maxHeartbeats 4000000 in
theorem newPipe_any (h : KerIs w B q K M) {n : Nat} {P : Prc} (hP : ask K.procs n = some P) (hlast : K.lastD < 80000) (hlx : K.lastX < 80000) (hpp : ∀ m y, ask K.descs m = some y → ∀ z, y.pipe = some z → z ≤ K.lastX) :
    Calls Tryz.prog 143 #[.pointer (some ⟨q, 0, none⟩), .pointer (some ⟨M.br n, 0, none⟩)] w fun e w' => e = .returned (.tuple #[.int .i64 (npipeM K n P).1, .int .i64 (npipeM K n P).2.1, .int .i64 (npipeM K n P).2.2.1]) ∧ KP (AllX B) w K M w' q (npipeM K n P).2.2.2 := by
  obtain ⟨hB, hT, hS1, hS2, hne⟩ : PrcAt w (B (.proc n)) (M.br n) (M.bt n) P := h.part (.proc n) P hP
  obtain ⟨b, hb⟩ : ∃ b, M.br n = b := ⟨_, rfl⟩
  obtain ⟨tb, htb⟩ : ∃ tb, M.bt n = tb := ⟨_, rfl⟩
  have hfree := Lib.hid (Pp.free_any w hT)
  rw [htb] at hB hfree
  have c2 : w.cell? ⟨b, 2, none⟩ = some (.pointer (some ⟨tb, 0, none⟩)) := by rw [← hb]; exact hB.cell 2
  have hH := Lib.hid h
  have hPH := Lib.hid hP
  have hbH := Lib.hid hb
  have hppH := Lib.hid hpp
  by_cases he : tfreeM P.tab < 2
  · have hl : npipeM K n P = (0, 0, 24, K) := by unfold npipeM; rw [if_pos he]
    rw [hl]
    dsimp only
    obtain ⟨fr, hfr⟩ : ∃ fr, (32 - ((Pp.upto P.tab 32).length : Int)) = fr := ⟨_, rfl⟩
    have he' : decide (fr < 2) = true := decide_eq_true (by rw [← hfr]; exact he)
    rw [hfr] at hfree
    rw [hb]
    clear h hP htb hb hB hT hS1 hS2 hne hl he hfr hpp
    go_enter Tryz.func143, Tryz.ntmps143
    go_wp2_with (go_at_call 194; refine hfree.out.mono ?_; rintro e w1 ⟨rfl, hb1⟩)
    refine bodyPost_ret (results_tmp3 rfl _ _ _) rfl ?_
    exact ⟨rfl, KP.of hH.out hb1⟩
  · have hl : Hid (npipeM K n P = ((tputM P.tab ((K.lastD : Int) + 1) 0).1, (tputM (tputM P.tab ((K.lastD : Int) + 1) 0).2.2 (((instM (putX K ⟨64, 1, 1, []⟩) n P (endD 3 (K.lastX + 1))).lastD : Int) + 1) 0).1, 0, instM (instM (putX K ⟨64, 1, 1, []⟩) n P (endD 3 (K.lastX + 1))) n { P with tab := (tputM P.tab ((K.lastD : Int) + 1) 0).2.2 } (endD 4 (K.lastX + 1)))) := Lib.hid (by unfold npipeM; rw [if_neg he])
    rw [hl.out]
    dsimp only
    obtain ⟨fr, hfr⟩ : ∃ fr, (32 - ((Pp.upto P.tab 32).length : Int)) = fr := ⟨_, rfl⟩
    have he' : decide (fr < 2) = false := decide_eq_false (by rw [← hfr]; exact he)
    rw [hfr] at hfree
    rw [hb]
    clear h hP htb hb hB hT hS1 hS2 hne hl he hfr hpp
    go_enter Tryz.func143, Tryz.ntmps143
    go_upto_region 6 with (first
      | (go_at_call 194; refine hfree.out.mono ?_; rintro e w1 ⟨rfl, hb1⟩; have hb1H := Lib.hid hb1; clear hb1)
      | (go_at_call 200; refine (Pp.new_yes 64 (by decide) (by decide) w1).mono ?_; rintro e w2 ⟨rfl, hP2, hb2⟩; have hP2H := Lib.hid hP2; have hb2H := Lib.hid hb2; clear hP2 hb2)
      | (go_at_call 201; refine (Pp.open_any true w3 hP3H.out (by decide) (by decide)).mono ?_; rintro e w4 ⟨rfl, hP4, hF4⟩; have hP4H := Lib.hid hP4; have hF4H := Lib.hid hF4; clear hP4 hF4)
      | (go_at_call 201; refine (Pp.open_any false w2 hP2H.out (by decide) (by decide)).mono ?_; rintro e w3 ⟨rfl, hP3, hF3⟩; have hP3H := Lib.hid hP3; have hF3H := Lib.hid hF3; clear hP3 hF3))
    obtain ⟨pp, hpe⟩ : ∃ pp, w1.heap.size + 2 = pp := ⟨_, rfl⟩
    obtain ⟨rb, hre⟩ : ∃ rb, w1.heap.size + 1 = rb := ⟨_, rfl⟩
    have hP4 := hP4H.out
    have hF3 := hF3H.out
    have hF4 := hF4H.out
    rw [hpe, hre] at hP4 hF3 hF4
    have hlt1 : ∀ i g, B i g → g < w1.heap.size := fun i g hg => Nat.lt_of_lt_of_le (hH.out.lt i g hg) hb1H.out.size
    have h2 := (hH.out.below hb1H.out).below hb2H.out
    have h3 : KerIs w3 B q K M := h2.keep hF3.size (fun i g hg => hF3.block g (h2.lt i g hg) (by have := hlt1 i g hg; omega) (by have := hlt1 i g hg; omega))
    have h4 : KerIs w4 B q K M := h3.keep hF4.size (fun i g hg => hF4.block g (h3.lt i g hg) (by have := hlt1 i g hg; omega) (by have := hlt1 i g hg; omega))
    have hwle : w.heap.size ≤ w1.heap.size := hb1H.out.size
    have hpge : w.heap.size ≤ pp := by omega
    have hrge : w.heap.size ≤ rb := by omega
    have hF14 : Frm (AllX B) w w4 := by
      have a1 : Frm (AllX B) w w2 := (Frm.of_below hb1H.out).below hb2H.out
      have a2 := a1.trans (O1 := fun g => g = pp ∨ g = rb) (fun g hg => .inr (by omega)) (frm_of_pp hF3 (.inl rfl) (.inr rfl))
      exact a2.trans (O1 := fun g => g = pp ∨ g = rb) (fun g hg => .inr (by omega)) (frm_of_pp hF4 (.inl rfl) (.inr rfl))
    have hput := putX_any h4 (S := fun g => g = pp ∨ g = rb) (b := pp) (x := ⟨64, 1, 1, []⟩) ⟨rb, hP4, .inl rfl, .inr rfl⟩ (fun j g hg hh => by have := hlt1 j g hg; omega) (fun g hg => by
      rcases hg with e | e
      · rw [e]; exact hP4.ltP
      · rw [e]; exact hP4.ltB) (by omega) hppH.out
    obtain ⟨z, hz⟩ : ∃ z, K.lastX + 1 = z := ⟨_, rfl⟩
    rw [show ((K.lastX : Int) + 1) = (z : Int) by rw [← hz]; rfl] at hput
    have hputH := Lib.hid hput
    have hzH := Lib.hid hz
    have hF14H := Lib.hid hF14
    have hpeH := Lib.hid hpe
    have h4H := Lib.hid h4
    have hw14 : w.heap.size ≤ w4.heap.size := hF14.size
    rw [hpe]
    clear hP4 hF3 hF4 hlt1 h2 h3 h4 hF14 hput hz hpe hre hP2H hP3H hP4H hF3H hF4H hb2H hwle
    go_upto_region 7 with (go_at_call 202; refine hputH.out.mono ?_; rintro e w5 ⟨rfl, B5, hk5, ho5, hF5, _⟩; have hk5H := Lib.hid hk5; have ho5H := Lib.hid ho5; have hF5H := Lib.hid hF5; clear hk5 ho5 hF5)
    obtain ⟨M5, hM5⟩ : ∃ M5, mpX M K pp = M5 := ⟨_, rfl⟩
    have e5 : MExt K M M5 := by rw [← hM5]; exact ext_mpX M K pp
    have hbr5 : M5.br n = b := by rw [← hM5]; exact hbH.out
    have hbx5 : M5.bx z = pp := by rw [← hM5, ← hzH.out]; show upN M.bx (K.lastX + 1) pp (K.lastX + 1) = pp; unfold upN; rw [if_pos rfl]
    have hk5 := hk5H.out
    rw [hM5] at hk5
    obtain ⟨K5, hK5⟩ : ∃ K5, putX K ⟨64, 1, 1, []⟩ = K5 := ⟨_, rfl⟩
    have hn5 : K5.lastX = z ∧ K5.lastD = K.lastD ∧ K5.lastR = K.lastR ∧ K5.procs = K.procs := by rw [← hK5, ← hzH.out]; exact ⟨rfl, rfl, rfl, rfl⟩
    rw [hK5] at hk5
    have hK5H := Lib.hid hK5
    have hc5 : Cur (AllX B) w K M q w5 K5 B5 M5 := ⟨hk5, e5, by rw [hn5.1, ← hzH.out]; exact Nat.le_succ _, by rw [hn5.2.1]; exact Nat.le_refl _, by rw [hn5.2.2.1]; exact Nat.le_refl _, fun g hg => by
      rcases ho5H.out g hg with (h6 | h6) | h6
      · exact .inl h6
      · right
        have h7 : g = pp ∨ g = rb := h6
        rcases h7 with h7 | h7 <;> omega
      · exact .inr (Nat.le_trans hw14 h6), hF14H.out.trans (fun g hg => .inl ⟨_, hg⟩) hF5H.out⟩
    have hP5 : ask K5.procs n = some P := by rw [hn5.2.2.2]; exact hPH.out
    have hi5 := Lib.hid (fun (W : World) (hW : Below w5.heap.size w5 W) => inst_new hk5 hP5 (endD 3 z) (by rw [hn5.2.1]; omega) (.pointer (some ⟨pp, 0, none⟩)) (by show ptrV (some (M5.bx z)) = _; rw [hbx5]; rfl) W hW)
    rw [hbr5] at hi5
    have hc5H := Lib.hid hc5
    have hP5H := Lib.hid hP5
    have hn5H := Lib.hid hn5
    have hbr5H := Lib.hid hbr5
    have hbx5H := Lib.hid hbx5
    have hrle : Hid (n ≤ K.lastR) := Lib.hid (proc_le hH.out.num hPH.out)
    clear hk5 hc5 hP5 hn5 hK5 hbr5 hbx5 e5 hM5 hputH hk5H ho5H hF5H h4H
    go_upto_region 8 with (go_at_call 31; refine (hi5.out _ (Below.refl _ _)).mono ?_; rintro e w6 ⟨rfl, hk6⟩; have hk6H := Lib.hid hk6; clear hk6)
    obtain ⟨K6, hK6⟩ : ∃ K6, instM K5 n P (endD 3 z) = K6 := ⟨_, rfl⟩
    have hk6 := hk6H.out
    rw [hK6] at hk6
    obtain ⟨B6, M6, hc6, he6, hx6, hd6, hr6⟩ := hc5H.out.next hk6
    have hP6 : ask K6.procs n = some { P with tab := (tputM P.tab ((K5.lastD : Int) + 1) 0).2.2 } := by rw [← hK6]; exact inst_ask hP5H.out _
    have hn6 : K6.lastD = K5.lastD + 1 := by rw [← hK6]; rfl
    have hbr6 : M6.br n = b := by rw [he6.br n (by rw [hn5H.out.2.2.1]; exact hrle.out)]; exact hbr5H.out
    have hbx6 : M6.bx z = pp := by rw [he6.bx z (by rw [hn5H.out.1]; exact Nat.le_refl _)]; exact hbx5H.out
    have hi6 := Lib.hid (fun (W : World) (hW : Below w6.heap.size w6 W) => inst_new hc6.is_ hP6 (endD 4 z) (by rw [hn6, hn5H.out.2.1]; omega) (.pointer (some ⟨pp, 0, none⟩)) (by show ptrV (some (M6.bx z)) = _; rw [hbx6]; rfl) W hW)
    rw [hbr6] at hi6
    have hc6H := Lib.hid hc6
    have hK6H := Lib.hid hK6
    have hn6H := Lib.hid hn6
    clear hc6 he6 hP6 hbr6 hbx6 hk6 hK6 hk6H hi5
    go_wp2_with (go_at_call 31; refine (hi6.out _ (Below.refl _ _)).mono ?_; rintro e w7 ⟨rfl, hk7⟩; have hk7H := Lib.hid hk7; clear hk7)
    refine bodyPost_ret (results_tmp3 rfl _ _ _) rfl ?_
    obtain ⟨B7, M7, hc7, _⟩ := hc6H.out.next hk7H.out
    have hD : (K5.lastD : Int) = (K.lastD : Int) := by rw [hn5H.out.2.1]
    have hkp := hc7.kp
    rw [hzH.out, hK5H.out, hK6H.out]
    rw [hD] at hkp ⊢
    have hD6 : (K6.lastD : Int) = (K.lastD : Int) + 1 := by rw [hn6H.out, hn5H.out.2.1]; rfl
    rw [hD6]
    exact ⟨rfl, hkp⟩
end
end Go.Proofs.YtmilagppbepnbaaGreat.Kn
