/- The worker over numbers: value, between, logic. Condition: it lies as stated. -/
import Derived.Test.YtjbmpockoicgmaaGreatArG
import Derived.Defers
namespace Go.Proofs.YtjbmpockoicgmaaGreat.I
open Go.RowKit Go.Shelf Go.PlainAid
set_option linter.unusedVariables false
set_option linter.unusedSimpArgs false
attribute [local go_sem] Oper.semAt_some

section
variable {b G np : Nat} {S : Nat → Prop} {w : World} {s : Ws Nm}
set_option maxRecDepth 100000 in
set_option maxHeartbeats 4000000 in
theorem value_w (h : At b G np S w s) (nm : ByteArray) (hnm : nm.size ≤ 9223372036854775807) : Calls Tryz.prog 29 #[.pointer (some ⟨b, 0, none⟩), .string nm] w fun e w' => e = .returned (.int .i64 (valueM NM nm s).1.1) ∧ At b G np S w' (valueM NM nm s).2 ∧ Fr S w S w' := by
  have hwk := Lib.hid (works_any h)
  have hv := Lib.hid (show valueM NM nm s = if worksM s then ((valI s.ms nm).1, failM (valI s.ms nm).2 s) else (zI, s) from rfl)
  have hH := Lib.hid h
  obtain ⟨a, c, hA⟩ := h
  have c0 : w.cell? ⟨b, 0, none⟩ = some (mv np) := hA.blk.cell 0
  have hval := Lib.hid (value_any hA.ma nm hnm)
  clear hA
  have hmt : ∀ w, (method 245 41 (.pointer (some ⟨np, 0, none⟩)) "shyard/arith.value").run Tryz.prog w = .ok (92, .pointer (some ⟨np, 0, none⟩)) w := fun w => by kernel_rfl
  cases hW : worksM s
  · rw [hW] at hwk hv
    go_enter Tryz.func29, Tryz.ntmps29
    go_wp2_with (first | (go_at_call 32; refine hwk.out.mono ?_; rintro e w2 ⟨rfl, rfl⟩))
    go_ret
    rw [hv.out]
    exact ⟨rfl, hH.out, Fr.refl _ _⟩
  · rw [hW] at hwk hv
    obtain ⟨v, hvv⟩ : ∃ v, valI s.ms nm = v := ⟨_, rfl⟩
    rw [hvv] at hv hval
    clear hvv
    go_enter Tryz.func29, Tryz.ntmps29
    go_wp2_with (first | (go_at_call 32; refine hwk.out.mono ?_; rintro e w2 ⟨rfl, rfl⟩) | (go_at_call 92; refine hval.out.mono ?_; rintro e w3 ⟨rfl, hb3⟩; have hA3 := Lib.hid (hH.out.below hb3); have hF3 := Lib.hid (Fr.of_below (S := S) hb3); clear hb3) | (go_at_call 19; refine (fail_any hA3.out _).mono ?_; rintro e w4 ⟨rfl, hA4, hF4⟩; have hA4H := Lib.hid hA4; have hF4H := Lib.hid hF4; clear hA4 hF4))
    go_ret
    rw [hv.out]
    exact ⟨rfl, hA4H.out, hF3.out.trans hF4H.out⟩

set_option maxRecDepth 100000 in
set_option maxHeartbeats 4000000 in
theorem between_w (h : At b G np S w s) (op : ByteArray) (x y : I64) : Calls Tryz.prog 31 #[.pointer (some ⟨b, 0, none⟩), .string op, .int .i64 x.1, .int .i64 y.1] w fun e w' => e = .returned (.int .i64 (betwM NM op x y s).1.1) ∧ At b G np S w' (betwM NM op x y s).2 ∧ Fr S w S w' := by
  have hwk := Lib.hid (works_any h)
  have hv := Lib.hid (show betwM NM op x y s = if worksM s then ((betI op.toList x y).1, failM (betI op.toList x y).2 s) else (zI, s) from rfl)
  have hH := Lib.hid h
  obtain ⟨a, c, hA⟩ := h
  have c0 : w.cell? ⟨b, 0, none⟩ = some (mv np) := hA.blk.cell 0
  have hval := Lib.hid (between_any np op x y w)
  clear hA
  have hmt : ∀ w, (method 245 41 (.pointer (some ⟨np, 0, none⟩)) "shyard/arith.between").run Tryz.prog w = .ok (89, .pointer (some ⟨np, 0, none⟩)) w := fun w => by kernel_rfl
  cases hW : worksM s
  · rw [hW] at hwk hv
    go_enter Tryz.func31, Tryz.ntmps31
    go_wp2_with (first | (go_at_call 32; refine hwk.out.mono ?_; rintro e w2 ⟨rfl, rfl⟩))
    go_ret
    rw [hv.out]
    exact ⟨rfl, hH.out, Fr.refl _ _⟩
  · rw [hW] at hwk hv
    obtain ⟨v, hvv⟩ : ∃ v, betI op.toList x y = v := ⟨_, rfl⟩
    rw [hvv] at hv hval
    clear hvv
    go_enter Tryz.func31, Tryz.ntmps31
    go_wp2_with (first | (go_at_call 32; refine hwk.out.mono ?_; rintro e w2 ⟨rfl, rfl⟩) | (go_at_call 89; refine hval.out.mono ?_; rintro e w3 ⟨rfl, rfl⟩) | (go_at_call 19; refine (fail_any hH.out _).mono ?_; rintro e w4 ⟨rfl, hA4, hF4⟩; have hA4H := Lib.hid hA4; have hF4H := Lib.hid hF4; clear hA4 hF4))
    go_ret
    rw [hv.out]
    exact ⟨rfl, hA4H.out, hF4H.out⟩

set_option maxRecDepth 100000 in
set_option maxHeartbeats 4000000 in
theorem logic_w (h : At b G np S w s) (yes : Bool) : Calls Tryz.prog 63 #[.pointer (some ⟨b, 0, none⟩), .bool yes] w fun e w' => e = .returned (.int .i64 (logicM NM yes).1) ∧ w = w' := by
  obtain ⟨a, c, hA⟩ := h
  have c0 : w.cell? ⟨b, 0, none⟩ = some (mv np) := hA.blk.cell 0
  clear hA
  have hmt : ∀ w, (method 245 41 (.pointer (some ⟨np, 0, none⟩)) "shyard/arith.number").run Tryz.prog w = .ok (90, .pointer (some ⟨np, 0, none⟩)) w := fun w => by kernel_rfl
  cases yes
  · have hr := Lib.hid (show (logicM NM false).1 = 0 from mkI_in (by omega))
    go_enter Tryz.func63, Tryz.ntmps63
    go_wp2_with (go_at_call 90; refine (number_int _ _ _).mono ?_; rintro e w2 ⟨rfl, rfl⟩)
    go_ret
    rw [hr.out]
    exact ⟨rfl, rfl⟩
  · have hr := Lib.hid (show (logicM NM true).1 = 1 from mkI_in (by omega))
    go_enter Tryz.func63, Tryz.ntmps63
    go_wp2_with (go_at_call 90; refine (number_int _ _ _).mono ?_; rintro e w2 ⟨rfl, rfl⟩)
    go_ret
    rw [hr.out]
    exact ⟨rfl, rfl⟩

/-- What a call that reads leaves. -/
def Post (b G np : Nat) (S : Nat → Prop) (w : World) (r : I64 × Ws Nm) (e : Ending) (w' : World) : Prop := e = .returned (.int .i64 r.1.1) ∧ ∃ S', At b G np S' w' r.2 ∧ Fr S w S' w'
set_option maxHeartbeats 2000000 in
theorem deeper1_d (p : Nat) (u : FrameMode) (d : Int) (w : World) (n0 : w.cell? ⟨p, 0, none⟩ = some (.pointer (some ⟨b, 0, none⟩))) (c2 : w.cell? ⟨b, 2, none⟩ = some (.int .i64 d)) (f2 : w.frozen? ⟨b, 2, none⟩ = false) (h0 : 0 ≤ d) (h1 : d ≤ 25) :
    CallsD Tryz.prog 49 #[.pointer (some ⟨p, 0, none⟩)] u w fun e u' w' => u' = u ∧ (e = .returned (.tuple #[]) ∧ w' = w.setCell ⟨b, 2, none⟩ (.int .i64 (d - 1))) := by
  go_enter_d Tryz.func49, Tryz.ntmps49
  go_wp2
  go_end0
  exact ⟨rfl, rfl⟩
set_option maxHeartbeats 2000000 in
theorem aside1_d (p : Nat) (u : FrameMode) (d : Int) (w : World) (n0 : w.cell? ⟨p, 0, none⟩ = some (.pointer (some ⟨b, 0, none⟩))) (c2 : w.cell? ⟨b, 3, none⟩ = some (.int .i64 d)) (f2 : w.frozen? ⟨b, 3, none⟩ = false) (h0 : 0 ≤ d) (h1 : d ≤ 150001) :
    CallsD Tryz.prog 64 #[.pointer (some ⟨p, 0, none⟩)] u w fun e u' w' => u' = u ∧ (e = .returned (.tuple #[]) ∧ w' = w.setCell ⟨b, 3, none⟩ (.int .i64 (d - 1))) := by
  go_enter_d Tryz.func64, Tryz.ntmps64
  go_wp2
  go_end0
  exact ⟨rfl, rfl⟩
/-- A depth less. -/
def dn (r : I64 × Ws Nm) : I64 × Ws Nm := (r.1, { r.2 with deep := r.2.deep - 1 })
def up (s : Ws Nm) : Ws Nm := { s with deep := s.deep + 1 }
theorem deep_no {f : Ws Nm → I64 × Ws Nm} (h : ¬ 24 < s.deep + 1) : deepM f s = dn (f (up s)) := by show dn (f (if 24 < s.deep + 1 then failM 52 (up s) else up s)) = _; rw [if_neg h]
theorem deep_fail {f : Ws Nm → I64 × Ws Nm} (h : 24 < s.deep + 1) : deepM f s = dn (f (failM 52 (up s))) := by show dn (f (if 24 < s.deep + 1 then failM 52 (up s) else up s)) = _; rw [if_pos h]
theorem deep_set {W : World} {v1 v2 v3 v4 v5 x : Value} (hB : Blk W b 59 #[v1, v2, v3, v4, v5]) : Blk (W.setCell ⟨b, 2, none⟩ x) b 59 #[v1, v2, x, v4, v5] := hB.set_ 2 _
theorem idle_set {W : World} {v1 v2 v3 v4 v5 x : Value} (hB : Blk W b 59 #[v1, v2, v3, v4, v5]) : Blk (W.setCell ⟨b, 3, none⟩ x) b 59 #[v1, v2, v3, x, v5] := hB.set_ 3 _
set_option maxRecDepth 100000 in
set_option maxHeartbeats 4000000 in
theorem deeper_fn (k : Nat) (first cap : Array Value) (hE : Enters Tryz.prog k) (h : At b G np S w s) (hd : s.deep ≤ 24) (f : Ws Nm → I64 × Ws Nm) (hf : ∀ s, Le cS s (f s).2)
    (hc : ∀ S' W s', At b G np S' W s' → Fr S w S' W → s'.toks.length ≤ s.toks.length → s'.deep = s.deep + 1 → s'.idle = s.idle → D2 s' → Calls Tryz.prog k (first ++ cap) W (Post b G np S' W (f s'))) :
    Calls Tryz.prog 30 #[.pointer (some ⟨b, 0, none⟩), .func (.func k) first cap] w (Post b G np S w (deepM f s)) := by
  have hH := Lib.hid h
  obtain ⟨a, c, hA⟩ := h
  have hbs := hA.blk.lt
  obtain ⟨p, hp⟩ : ∃ p, w.heap.size = p := ⟨_, rfl⟩
  have hw1 := (show Below w.heap.size w (w.alloc (.cells #[.pointer (some ⟨b, 0, none⟩)] 56)) from alB _ _)
  have hN := newB w #[.pointer (some ⟨b, 0, none⟩)] (t := 56) p hp
  have hA1 := hA.below hw1
  obtain ⟨W1, hW1⟩ : ∃ W, w.alloc (.cells #[.pointer (some ⟨b, 0, none⟩)] 56) = W := ⟨_, rfl⟩
  rw [hW1] at hw1 hN hA1
  have c2 : W1.cell? ⟨b, 2, none⟩ = some (.int .i64 s.deep) := hA1.blk.cell 2
  have f2 := hA1.blk.frozen 2
  have n0 : W1.cell? ⟨p, 0, none⟩ = some (.pointer (some ⟨b, 0, none⟩)) := hN.cell 0
  have hd0 := hA.ok.d0
  rw [hp] at hbs
  have hw1H := Lib.hid hw1
  have hNH := Lib.hid hN
  have hA1H := Lib.hid hA1
  have hpH := Lib.hid hp
  clear hp
  have hW1H := Lib.hid hW1
  have hEH := Lib.hid hE
  have hcH := Lib.hid hc
  have hfH := Lib.hid hf
  clear hw1 hN hA hA1 hW1 hE hc hf
  have hmf : ∀ (fn : Fn) (first cap : Array Value) (w : World), (Instr.makeFunc fn first cap).run Tryz.prog w = .ok (.func fn first cap) w := fun _ _ _ _ => rfl
  go_enter_defers Tryz.func30, Tryz.ntmps30
  go_upto_region 1 with fail
  rw [hW1H.out, hpH.out]
  go_upto_region 2 with fail
  have hle1 : Ok cS (up s) := by have ho := hA1H.out.ok; exact ⟨by show 0 ≤ s.deep + 1; omega, by show s.deep + 1 ≤ 25; omega, ho.i0, ho.i1, ho.sz, ho.er⟩
  have hA2 : WA b G np S (W1.setCell ⟨b, 2, none⟩ (.int .i64 (s.deep + 1))) (up s) a c := hA1H.out.turn (by simp) (other1 W1 2 _) (deep_set hA1H.out.blk) hA1H.out.tk rfl hle1
  have hF2 : Fr S W1 S (W1.setCell ⟨b, 2, none⟩ (.int .i64 (s.deep + 1))) := Fr.set_ W1 hA1H.out.sb _
  have hN2 : Blk (W1.setCell ⟨b, 2, none⟩ (.int .i64 (s.deep + 1))) p 56 #[.pointer (some ⟨b, 0, none⟩)] := hNH.out.far (by show p ≠ b; omega) _
  obtain ⟨W2, hW2⟩ : ∃ W, W1.setCell ⟨b, 2, none⟩ (.int .i64 (s.deep + 1)) = W := ⟨_, rfl⟩
  rw [hW2] at hA2 hF2 hN2 ⊢
  have n2 : W2.cell? ⟨p, 0, none⟩ = some (.pointer (some ⟨b, 0, none⟩)) := hN2.cell 0
  have e2 : W2.cell? ⟨b, 2, none⟩ = some (.int .i64 (s.deep + 1)) := hA2.blk.cell 2
  have hA2H := Lib.hid hA2
  have hF2H := Lib.hid hF2
  have hN2H := Lib.hid hN2
  clear hA2 hF2 hN2 hW2 c2 n0 f2 hle1
  have hnSp : ¬ S p := fun e => by have := hH.out; obtain ⟨_, _, h9⟩ := this; have := h9.lt p e; have := hpH.out; omega
  have hFw : Hid (Fr S w S W2) := Lib.hid ((Fr.of_below hw1H.out).trans hF2H.out)
  have hnSpH := Lib.hid hnSp
  clear hnSp n2 e2 hmf
  have hmf : ∀ (fn : Fn) (first cap : Array Value) (w : World), (Instr.makeFunc fn first cap).run Tryz.prog w = .ok (.func fn first cap) w := fun _ _ _ _ => rfl
  have n2 : W2.cell? ⟨p, 0, none⟩ = some (.pointer (some ⟨b, 0, none⟩)) := hN2H.out.cell 0
  have e2 : W2.cell? ⟨b, 2, none⟩ = some (.int .i64 (s.deep + 1)) := hA2H.out.blk.cell 2
  rcases (show 24 < s.deep + 1 ∨ ¬ 24 < s.deep + 1 by omega) with h24 | h24
  case' inl =>
    have heq := Lib.hid (deep_fail (f := f) h24)
    go_upto_region 5 with (go_at_call 19; refine (fail_any ⟨a, c, hA2H.out⟩ 52).mono ?_; rintro e w5 ⟨rfl, hA3, hF3⟩; have hA3H := Lib.hid hA3; have hF3H := Lib.hid hF3; clear hA3 hF3)
    have HX := Lib.hid (show ∃ s5, At b G np S w5 s5 ∧ Fr S w S w5 ∧ Blk w5 p 56 #[.pointer (some ⟨b, 0, none⟩)] ∧ D2 s5 ∧ s5.toks.length ≤ s.toks.length ∧ s5.deep = s.deep + 1 ∧ s5.idle = s.idle ∧ deepM f s = dn (f s5) from by
      refine ⟨failM 52 (up s), hA3H.out, hFw.out.trans hF3H.out, hF3H.out.blk hN2H.out hnSpH.out, fun _ => ?_, failM_toks 52 (up s), (failM_le cS 52 (up s)).deep, (failM_le cS 52 (up s)).idle, heq.out⟩
      unfold failM
      split
      · rfl
      · rename_i h9
        by_cases h8 : (up s).err = 0
        · exact absurd ⟨h8, by decide⟩ h9
        · exact hA2H.out.ok.er h8)
    clear heq hA3H hF3H
  case' inr =>
    have heq := Lib.hid (deep_no (f := f) h24)
    obtain ⟨w5, rfl⟩ : ∃ x : World, x = W2 := ⟨_, rfl⟩
    go_upto_region 5 with fail
    have HX := Lib.hid (show ∃ s5, At b G np S w5 s5 ∧ Fr S w S w5 ∧ Blk w5 p 56 #[.pointer (some ⟨b, 0, none⟩)] ∧ D2 s5 ∧ s5.toks.length ≤ s.toks.length ∧ s5.deep = s.deep + 1 ∧ s5.idle = s.idle ∧ deepM f s = dn (f s5) from
      ⟨up s, ⟨a, c, hA2H.out⟩, hFw.out, hN2H.out, fun e9 => by have h9 : s.deep + 1 = 25 := e9; omega, Nat.le_refl _, rfl, rfl, heq.out⟩)
    clear heq
  all_goals
    clear h24 n2 e2 hmf
    obtain ⟨s5, hA5, hF5, hN5, hD5, hL5, hd5, hi5, heq⟩ := HX.out
    have hcall := Lib.hid (hcH.out S w5 s5 hA5 hF5 hL5 hd5 hi5 hD5)
    have hfs := Lib.hid (hfH.out s5)
    have hN5H := Lib.hid hN5
    have hF5H := Lib.hid hF5
    have hd5H := Lib.hid hd5
    have heqH := Lib.hid heq
    clear HX hA5 hF5 hN5 hD5 hL5 hd5 hi5 heq
    have hE' : ∀ (args : Array Value) (w : World), (callFunc k args).run Tryz.prog w = .ok (.enter k args) w := hEH.out
    go_wp2_with (go_at_fn k; refine hcall.out.mono ?_; rintro e w6 ⟨rfl, S6, hA6, hF6⟩; have hA6H := Lib.hid hA6; have hF6H := Lib.hid hF6; clear hA6 hF6)
    obtain ⟨a6, c6, hA6⟩ := hA6H.out
    have hF6 := hF6H.out
    have hN6 := hF6.blk hN5H.out hnSpH.out
    have hdd : (f s5).2.deep = s.deep + 1 := hfs.out.deep.trans hd5H.out
    refine leaves_cons (f := 49) (args := #[.pointer (some ⟨p, 0, none⟩)]) (by simp) (by simp [go_sem]) ?_
    refine (deeper1_d p .returning (f s5).2.deep _ (hN6.cell 0) (hA6.blk.cell 2) (hA6.blk.frozen 2) (by omega) (by omega)).mono ?_
    rintro e u' w'' ⟨rfl, rfl, rfl⟩
    refine ⟨_, results_tmp rfl _ _ _, ?_⟩
    have ho := hA6.ok
    have hok : Ok cS (dn (f s5)).2 := ⟨by show 0 ≤ (f s5).2.deep - 1; omega, by show (f s5).2.deep - 1 ≤ 25; omega, ho.i0, ho.i1, ho.sz, ho.er⟩
    rw [heqH.out]
    exact ⟨rfl, S6, ⟨a6, c6, hA6.turn (by simp) (other1 w6 2 _) (deep_set hA6.blk) hA6.tk rfl hok⟩, (hF5H.out.trans hF6).trans (Fr.set_ w6 hA6.sb _)⟩
end
end Go.Proofs.YtjbmpockoicgmaaGreat.I
