/- The worker over form: an assignment. Condition: it lies as stated; what stands deeper is read as stated. -/
import Derived.Test.YtjbmpockoicgmaaGreatFoQ
namespace Go.Proofs.YtjbmpockoicgmaaGreat.F
open Go.RowKit Go.Shelf Go.PlainAid
set_option linter.unusedVariables false
set_option linter.unusedSimpArgs false
attribute [local go_sem] Oper.semAt_some

section
variable {b G np : Nat} {S : Nat → Prop} {w : World} {s : Ws Nm}
/-- What an assignment is. -/
def asgOp (s : Ws Nm) : ByteArray := (peekM (nextM s)).text.extract 0 ((peekM (nextM s)).text.size - 1)
def asgV (s : Ws Nm) : I64 × Ws Nm := if (asgOp s).size = 0 then (zI, nextM (nextM s)) else valueM NM (peekM s).text (nextM (nextM s))
def asgR (f : Nat) (s : Ws Nm) : I64 × Ws Nm := deepM (go NM f .asg) (asgV s).2
def asgB (f : Nat) (s : Ws Nm) : I64 × Ws Nm := if (asgOp s).size = 0 then asgR f s else betwM NM (asgOp s) (asgV s).1 (asgR f s).1 (asgR f s).2
theorem asg_no {f : Nat} (h : asgs s = false) : go NM (f + 1) .asg s = go NM f .cho s := by
  show (if asgs s then _ else go NM f .cho s) = _
  rw [if_neg (by rw [h]; exact Bool.false_ne_true)]
theorem asg_yes {f : Nat} (h : asgs s = true) : go NM (f + 1) .asg s = ((asgB f s).1, setM NM (peekM s).text (asgB f s).1 (asgB f s).2) := by
  conv => lhs; unfold go
  rw [if_pos h]
  by_cases hz : (asgOp s).size = 0
  · have e1 : asgB f s = asgR f s := by unfold asgB; rw [if_pos hz]
    have e2 : asgV s = (zI, nextM (nextM s)) := by unfold asgV; rw [if_pos hz]
    rw [e1]
    unfold asgR
    rw [e2]
    have hz' : ((peekM (nextM s)).text.extract 0 ((peekM (nextM s)).text.size - 1)).size = 0 := hz
    simp only [hz', if_true]
  · have e1 : asgB f s = betwM NM (asgOp s) (asgV s).1 (asgR f s).1 (asgR f s).2 := by unfold asgB; rw [if_neg hz]
    have e2 : asgV s = valueM NM (peekM s).text (nextM (nextM s)) := by unfold asgV; rw [if_neg hz]
    rw [e1]
    unfold asgR
    rw [e2]
    have hz' : ¬ ((peekM (nextM s)).text.extract 0 ((peekM (nextM s)).text.size - 1)).size = 0 := hz
    simp only [hz', if_false]
    rfl
theorem asgV_le (s : Ws Nm) : Le cS (nextM (nextM s)) (asgV s).2 := by
  unfold asgV; split
  · exact Le.refl _ _
  · exact valueM_le _ _ _ _
theorem asgR_le (f : Nat) (s : Ws Nm) : Le cS (nextM (nextM s)) (asgR f s).2 := (asgV_le s).trans (deepM_le (go_leN f .asg) _)
theorem asgB_le (f : Nat) (s : Ws Nm) : Le cS (nextM (nextM s)) (asgB f s).2 := by
  unfold asgB; split
  · exact asgR_le f s
  · exact (asgR_le f s).trans (betwM_le _ _ _ _ _ _)
theorem asg_text {l : List UInt8} (h : asgL l = true) : l ≠ [] := fun e => by rw [e] at h; revert h; decide

set_option maxRecDepth 100000 in
set_option maxHeartbeats 8000000 in
theorem asg_w {f : Nat} (hCA : CA b G np f) (hCC : CC b G np f) : CA b G np (f + 1) := by
  intro S w s h hD hf
  have h49 := ld49
  have s49 := st49
  have hb0 := bAl w
  obtain ⟨w0, hw0⟩ : ∃ W, w.alloc o49 = W := ⟨_, rfl⟩
  rw [hw0] at hb0
  have hF00 := Fr.of_below (S := S) hb0
  refine (show Calls Tryz.prog 21 #[ptr b] w (Post b G np S w0 (go NM (f + 1) .asg s)) from ?_).mono (fun e w' h => Post.from_ h hF00)
  replace h := h.below hb0
  clear hb0 hF00
  have hno := Lib.hid (asg_no (s := s) (f := f))
  have hyes := Lib.hid (asg_yes (s := s) (f := f))
  have has := Lib.hid (show asgs s = (match s.toks with | a :: b :: _ => decide (a.kind = 2) && asgL b.text.toList | _ => false) from rfl)
  have hcc := Lib.hid (fun e : 6 * s.toks.length + 4 ≤ f => hCC S w0 s h hD e)
  obtain ⟨a, c, hA⟩ := h
  have c1 : w0.cell? ⟨b, 1, none⟩ = some (.slice a s.toks.length c) := hA.blk.cell 1
  cases hl : s.toks with
  | nil =>
    have hr := Lib.hid (hno.out (has.out.trans (by rw [hl])))
    have hcc := Lib.hid (hcc.out (by rw [hl]; show 4 ≤ f; rw [hl] at hf; have hf : 5 ≤ f + 1 := hf; omega))
    rw [hl] at c1
    have c1 : w0.cell? ⟨b, 1, none⟩ = some (.slice a 0 c) := c1
    clear hA hl hf hCA hCC hD hno hyes has
    rw [hr.out]
    go_enter Tryz.func21, Tryz.ntmps21
    go_wp2_with (go_at_call 33; refine hcc.out.mono ?_; rintro e w2 hP; obtain ⟨rfl, hP2⟩ := hP; have hPH := Lib.hid hP2; clear hP2)
    refine bodyPost_ret (results49 rfl _ _ rfl _) rfl ?_
    exact ⟨rfl, hPH.out⟩
  | cons t1 l1 =>
    have hcc := Lib.hid (hcc.out (by have hn : s.toks.length = l1.length + 1 := by rw [hl]; rfl
                                     omega))
    cases hl1 : l1 with
    | nil =>
      rw [hl1] at hl
      have hr := Lib.hid (hno.out (has.out.trans (by rw [hl])))
      rw [hl] at c1
      have c1 : w0.cell? ⟨b, 1, none⟩ = some (.slice a 1 c) := c1
      have hasg := hr
      clear hA hl hl1 hf hCA hCC hD hno hyes has
      rw [hr.out]
      go_enter Tryz.func21, Tryz.ntmps21
      go_wp2_with (first | (go_at_call 33; refine hcc.out.mono ?_; rintro e w2 hP; obtain ⟨rfl, hP2⟩ := hP; have hPH := Lib.hid hP2; clear hP2) | (go_at_call 26; refine (isAsg_any _ _).mono ?_; rintro e w0' ⟨rfl, rfl⟩; rw [hasg.out]))
      refine bodyPost_ret (results49 rfl _ _ rfl _) rfl ?_
      exact ⟨rfl, hPH.out⟩
    | cons t2 l =>
      rw [hl1] at hl
      obtain ⟨o, rfl, hc0⟩ := hA.tk.tok (i := 0) (t := t1) (by rw [hl]; rfl)
      obtain ⟨o', e9, hc1⟩ := hA.tk.tok (i := 1) (t := t2) (by rw [hl]; rfl)
      obtain rfl : o = o' := by simpa using e9
      have k1 : w0.cell? ⟨G, o, none⟩ = some (.int .i64 t1.kind) := hc0.kind
      have k2 : w0.cell? ⟨G, o + 4, none⟩ = some (.string t2.text) := hc1.text
      have hNc := hA.tk.1
      have hNl := hA.tk.2.1
      obtain ⟨N, hN⟩ : ∃ N, s.toks.length = N := ⟨_, rfl⟩
      have hN2 : 2 ≤ N := by rw [← hN, hl]; simp
      rw [hN] at c1 hNc hNl
      have has2 := Lib.hid (show asgs s = (decide (t1.kind = 2) && asgL t2.text.toList) from has.out.trans (by rw [hl]))
      have hp1 := Lib.hid (show peekM s = t1 by unfold peekM; rw [hl]; rfl)
      have hp2 := Lib.hid (show peekM (nextM s) = t2 by unfold peekM nextM; rw [hl]; rfl)
      have hsz := hA.tk.2.2.1
      have hz1 := (hsz t1 (by rw [hl]; exact List.mem_cons_self ..)).1
      have hz2 := (hsz t2 (by rw [hl]; exact List.mem_cons_of_mem _ (List.mem_cons_self ..))).1
      have hAH := Lib.hid (show At b G np S w0 s from ⟨_, c, hA⟩)
      have hfH := Lib.hid hf
      have hDH := Lib.hid hD
      have hCAH := Lib.hid hCA
      have hlH := Lib.hid hl
      have hNH := Lib.hid hN
      clear hA hl hl1 hf hCA hCC hD has e9 hc0 hc1 hN hsz
      cases q1 : ((t1.kind : Int) != 2)
      rotate_left
      · have hr := Lib.hid (hno.out (has2.out.trans (by rw [decide_eq_false (fun e => by rw [e] at q1; cases q1)]; rfl)))
        have hasg := hr
        rw [hr.out]
        go_enter Tryz.func21, Tryz.ntmps21
        go_wp2_with (first | (go_at_call 33; refine hcc.out.mono ?_; rintro e w2 hP; obtain ⟨rfl, hP2⟩ := hP; have hPH := Lib.hid hP2; clear hP2) | (go_at_call 26; refine (isAsg_any _ _).mono ?_; rintro e w0' ⟨rfl, rfl⟩; rw [hasg.out]))
        refine bodyPost_ret (results49 rfl _ _ rfl _) rfl ?_
        exact ⟨rfl, hPH.out⟩
      have e1 : t1.kind = 2 := by have := (show ¬ ((t1.kind : Int) ≠ 2) from fun h => by rw [bne_iff_ne.2 h] at q1; cases q1); omega
      have e1H := Lib.hid e1
      clear e1
      cases q2 : asgL t2.text.toList
      · have hr := Lib.hid (hno.out (has2.out.trans (by rw [q2, Bool.and_false])))
        have hasg := Lib.hid q2
        clear q2
        rw [hr.out]
        go_enter Tryz.func21, Tryz.ntmps21
        go_wp2_with (first | (go_at_call 33; refine hcc.out.mono ?_; rintro e w2 hP; obtain ⟨rfl, hP2⟩ := hP; have hPH := Lib.hid hP2; clear hP2) | (go_at_call 26; refine (isAsg_any _ _).mono ?_; rintro e w0' ⟨rfl, rfl⟩; rw [hasg.out]))
        refine bodyPost_ret (results49 rfl _ _ rfl _) rfl ?_
        exact ⟨rfl, hPH.out⟩
      have haT := Lib.hid (has2.out.trans (by rw [q2, decide_eq_true e1H.out]))
      have hasg := Lib.hid q2
      have hne2 := asg_text q2
      clear q2
      have hr := Lib.hid (hyes.out haT.out)
      have hnx := Lib.hid (next_any hAH.out)
      rw [hp1.out] at hnx
      rw [hr.out]
      have hz0 : 1 ≤ t2.text.size := by
        have : t2.text.toList.length ≠ 0 := fun e => hne2 (List.eq_nil_of_length_eq_zero e)
        rw [Lib.toList_data, ← Lib.size_eq] at this
        omega
      clear hne2
      have hfd1 : ∀ (x y z : Value) (w0 : World), (Instr.field 64 (.agg #[x, y, z]) 1).run Tryz.prog w0 = .ok y w0 := fun x y z w0 => by kernel_rfl
      go_enter Tryz.func21, Tryz.ntmps21
      go_upto_region 6 with (first | (go_at_call 26; refine (isAsg_any _ _).mono ?_; rintro e w0' ⟨rfl, rfl⟩; rw [hasg.out]) | (go_at_call 34; refine (next_any hA2H.out).mono ?_; rintro e w3 ⟨rfl, hA3, hF3⟩; rw [hp2.out]; dsimp only [tkV]; have hA3H := Lib.hid hA3; have hF3H := Lib.hid hF3; clear hA3 hF3) | (go_at_call 34; refine hnx.out.mono ?_; rintro e w2 ⟨rfl, hA2, hF2⟩; dsimp only [tkV]; have hA2H := Lib.hid hA2; have hF2H := Lib.hid hF2; clear hA2 hF2))
      have hA3H := Lib.hid hA3H.out.al
      have hF3H := Lib.hid (Fr.al hF3H.out)
      obtain ⟨w3, hw3⟩ : ∃ W, w3.alloc o49 = W := ⟨_, rfl⟩
      rw [hw3] at hA3H hF3H ⊢
      clear hw3
      have hopd : Hid (asgOp s = t2.text.extract 0 (t2.text.size - 1)) := Lib.hid (by unfold asgOp; rw [hp2.out])
      obtain ⟨op, hop⟩ : ∃ op, t2.text.extract 0 (t2.text.size - 1) = op := ⟨_, rfl⟩
      rw [hop] at hopd ⊢
      have hopz : op.size ≤ 100000 := by rw [← hop, ByteArray.size_extract]; omega
      have hF0 := Lib.hid (hF2H.out.trans hF3H.out)
      have hLn : Hid (Le cS s (nextM (nextM s))) := Lib.hid ((nextM_le cS s).trans (nextM_le cS _))
      have hVd := Lib.hid (show asgV s = if (asgOp s).size = 0 then (zI, nextM (nextM s)) else valueM NM (peekM s).text (nextM (nextM s)) from rfl)
      have hBd := Lib.hid (show asgB f s = if (asgOp s).size = 0 then asgR f s else betwM NM (asgOp s) (asgV s).1 (asgR f s).1 (asgR f s).2 from rfl)
      rw [hopd.out] at hVd hBd
      rw [hp1.out] at hVd
      clear hop
      have hz9 : t1.text.size ≤ 9223372036854775807 := by omega
      have hopz : op.size ≤ maxLen := by unfold maxLen; omega
      have hemp : ((⟨#[]⟩ : ByteArray).toList) = [] := by rw [Lib.toList_data]
      obtain ⟨z, hzz⟩ : ∃ z, (!op.toList.isEmpty) = z := ⟨_, rfl⟩
      have hzH : Hid ((z = true → ¬ op.size = 0) ∧ (z = false → op.size = 0)) := Lib.hid (by
        rw [← hzz]
        refine ⟨fun h1 h2 => ?_, fun h1 => ?_⟩
        · have := size0 h2; rw [this, hemp] at h1; cases h1
        · apply Decidable.byContradiction; intro h2; rw [str_ne h2] at h1; cases h1)
      have hzzH := Lib.hid hzz
      clear hzz hemp
      go_upto_if 48 with fail
      rw [hzzH.out]
      go_cut [5] (fun s5 wx => ∃ a5 : Addr, s5 = .pointer (some a5) ∧ Hid (At b G np S wx (asgV s).2 ∧ Fr S w0 S wx))
      case first =>
        cases z
        · have hz := hzH.out.2 rfl
          have hv := Lib.hid (show asgV s = (zI, nextM (nextM s)) by rw [hVd.out, if_pos hz])
          clear hz
          go_wp2_with fail
          go_meet
          case rel => rw [hv.out]; exact ⟨_, rfl, Lib.hid ⟨hA3H.out, hF0.out⟩⟩
        · have hz := hzH.out.1 rfl
          have hv := Lib.hid (show asgV s = valueM NM t1.text (nextM (nextM s)) by rw [hVd.out, if_neg hz])
          clear hz
          go_wp2_with (go_at_call 35; refine (value_w hA3H.out t1.text).mono ?_; rintro e w4 ⟨rfl, hA4, hF4⟩; have hA4H := Lib.hid hA4; have hF4H := Lib.hid hF4; clear hA4 hF4)
          go_meet
          case rel => rw [hv.out]; exact ⟨_, rfl, Lib.hid ⟨hA4H.out, hF0.out.trans hF4H.out⟩⟩
      case rest =>
        obtain ⟨a5, rfl, hC⟩ := hcut
        obtain ⟨w4, rfl⟩ : ∃ x : World, x = wc := ⟨_, rfl⟩
        have hLV := Lib.hid (hLn.out.trans (asgV_le s))
        have htk : Hid ((nextM (nextM s)).toks.length + 2 = s.toks.length) := Lib.hid (by show s.toks.tail.tail.length + 2 = _; rw [hlH.out]; simp)
        have hVt := Lib.hid ((asgV_le s).toks)
        have hdp := Lib.hid (deeper_fn 21 #[ptr b] #[] enters_a hC.out.1 (by rw [hLV.out.deep]; exact d2_le hAH.out.ok hDH.out (by rw [hlH.out]; exact List.cons_ne_nil _ _)) (go NM f .asg) (go_leN f .asg) (fun S' W s' hA hF hL hdp hid hD2 => by
          have h9 := hCAH.out S' W s' hA hD2 (by have := hfH.out; have := htk.out; have := hVt.out; omega)
          simpa using h9))
        rw [show deepM (go NM f .asg) (asgV s).2 = asgR f s from rfl] at hdp
        have hmf : ∀ (fn : Fn) (first cap : Array Value) (w0 : World), (Instr.makeFunc fn first cap).run Tryz.prog w0 = .ok (.func fn first cap) w0 := fun _ _ _ _ => rfl
        go_upto_if 57 with (go_at_call 36; refine hdp.out.mono ?_; rintro e w5 ⟨rfl, S5, hA5, hF5⟩; have hA5H := Lib.hid hA5; have hF5H := Lib.hid hF5; clear hA5 hF5)
        have hA5H := Lib.hid hA5H.out.al
        have hF5H := Lib.hid (Fr.al hF5H.out)
        obtain ⟨w5, hw5⟩ : ∃ W, w5.alloc o49 = W := ⟨_, rfl⟩
        rw [hw5] at hA5H hF5H ⊢
        clear hw5
        rw [hzzH.out]
        have hF05 := Lib.hid (hC.out.2.trans hF5H.out)
        go_cut [6] (fun s6 wx => ∃ a6 : Addr, s6 = .pointer (some a6) ∧ Hid (At b G np S5 wx (asgB f s).2 ∧ Fr S w0 S5 wx))
        case first =>
          cases z
          · have hz := hzH.out.2 rfl
            have hv := Lib.hid (show asgB f s = asgR f s by rw [hBd.out, if_pos hz])
            clear hz
            go_wp2_with fail
            go_meet
            case rel => rw [hv.out]; exact ⟨_, rfl, Lib.hid ⟨hA5H.out, hF05.out⟩⟩
          · have hz := hzH.out.1 rfl
            have hv := Lib.hid (show asgB f s = betwM NM op (asgV s).1 (asgR f s).1 (asgR f s).2 by rw [hBd.out, if_neg hz])
            clear hz
            go_wp2_with (go_at_call 37; refine (between_w hA5H.out op (asgV s).1 (asgR f s).1).mono ?_; rintro e w6 ⟨rfl, hA6, hF6⟩; have hA6H := Lib.hid hA6; have hF6H := Lib.hid hF6; clear hA6 hF6)
            go_meet
            case rel => rw [hv.out]; exact ⟨_, rfl, Lib.hid ⟨hA6H.out, hF05.out.trans hF6H.out⟩⟩
        case rest =>
          obtain ⟨a6, rfl, hC6⟩ := hcut
          obtain ⟨w7, rfl⟩ : ∃ x : World, x = wc := ⟨_, rfl⟩
          have hLB := Lib.hid (asgB_le f s)
          obtain ⟨B, hB⟩ : ∃ B, asgB f s = B := ⟨_, rfl⟩
          rw [hB] at hC6 hLB
          have hwk := Lib.hid (works_any hC6.out.1)
          have hst := Lib.hid (show setM NM (peekM s).text B.1 B.2 = if worksM B.2 then { B.2 with ms := () } else B.2 by rw [hp1.out]; rfl)
          have hBH := Lib.hid hB
          clear hB
          cases hW : worksM B.2
          · rw [hW] at hwk hst
            go_wp2_with (go_at_call 38; refine hwk.out.mono ?_; rintro e w8 ⟨rfl, rfl⟩)
            refine bodyPost_ret (results49 rfl _ _ rfl _) rfl ?_
            rw [hBH.out, hst.out]
            exact ⟨rfl, S5, hC6.out.1, hC6.out.2⟩
          · rw [hW] at hwk hst
            obtain ⟨a7, c7, hA7⟩ := hC6.out.1
            have c0 : w7.cell? ⟨b, 0, none⟩ = some (mv np) := hA7.blk.cell 0
            have hmt : ∀ w, (method 245 52 un "shyard/arith.assign").run Tryz.prog w = .ok (119, un) w := fun w => by kernel_rfl
            have c0d : w7.drew.cell? ⟨b, 0, none⟩ = some (mv np) := c0
            have hA7d : Hid (At b G np S5 w7.drew B.2) := Lib.hid (hC6.out.1.below ⟨rfl, rfl, rfl, Nat.le_refl _, fun _ _ => rfl⟩)
            have hF7d : Hid (Fr S w0 S5 w7.drew) := Lib.hid (hC6.out.2.trans (Fr.of_below ⟨rfl, rfl, rfl, Nat.le_refl _, fun _ _ => rfl⟩))
            clear hA7
            go_upto_region 12 with (go_at_call 38; refine hwk.out.mono ?_; rintro e w8 ⟨rfl, rfl⟩)
            go_region_held3 (fun Z => Z.cell? ⟨b, 0, none⟩ = some (mv np)) (first | with_reducible exact c0d | with_reducible exact c9 | fail) ((first | (go_at_call 119; refine (assign_f _ _).mono ?_; rintro e w9 ⟨rfl, hb9⟩; have hA9 := hA7d.out.below hb9; have c9 : w9.cell? ⟨b, 0, none⟩ = some (mv np) := (by obtain ⟨_, _, h9⟩ := hA9; exact h9.blk.cell 0); have hA9H := Lib.hid hA9; have hF9H := Lib.hid (hF7d.out.trans (Fr.of_below (S := S5) hb9)); clear hA9 hb9) | fail))
            go_wp2
            refine bodyPost_ret (results49 rfl _ _ rfl _) rfl ?_
            rw [hBH.out, hst.out]
            exact ⟨rfl, S5, hA9H.out, hF9H.out⟩
end
end Go.Proofs.YtjbmpockoicgmaaGreat.F
