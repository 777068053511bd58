/- The worker over form: deeper. Condition: it lies as stated. -/
import Derived.Test.YtjbmpockoicgmaaGreatFoH
namespace Go.Proofs.YtjbmpockoicgmaaGreat.F
open Go.RowKit Go.Shelf Go.PlainAid
set_option linter.unusedVariables false
set_option linter.unusedSimpArgs false
attribute [local go_sem] Oper.semAt_some
section
variable {b G np : Nat} {S : Nat → Prop} {w : World} {s : Ws Nm}
/-- What a call that reads leaves. -/
def Post (b G np : Nat) (S : Nat → Prop) (w : World) (r : I64 × Ws Nm) (e : Ending) (w' : World) : Prop := e = .returned un ∧ ∃ S', At b G np S' w' r.2 ∧ Fr S w S' w'
set_option maxHeartbeats 2000000 in
theorem deeper1_d (p : Nat) (u : FrameMode) (d : Int) (w : World) (n0 : w.cell? ⟨p, 0, none⟩ = some (.pointer (some ⟨b, 0, none⟩))) (c2 : w.cell? ⟨b, 2, none⟩ = some (.int .i64 d)) (f2 : w.frozen? ⟨b, 2, none⟩ = false) (h0 : 0 ≤ d) (h1 : d ≤ 25) :
    CallsD Tryz.prog 56 #[.pointer (some ⟨p, 0, none⟩)] u w fun e u' w' => u' = u ∧ (e = .returned (.tuple #[]) ∧ w' = w.setCell ⟨b, 2, none⟩ (.int .i64 (d - 1))) := by
  go_enter_d Tryz.func56, Tryz.ntmps56
  go_wp2
  go_end0
  exact ⟨rfl, rfl⟩
set_option maxHeartbeats 2000000 in
theorem aside1_d (p : Nat) (u : FrameMode) (d : Int) (w : World) (n0 : w.cell? ⟨p, 0, none⟩ = some (.pointer (some ⟨b, 0, none⟩))) (c2 : w.cell? ⟨b, 3, none⟩ = some (.int .i64 d)) (f2 : w.frozen? ⟨b, 3, none⟩ = false) (h0 : 0 ≤ d) (h1 : d ≤ 150001) :
    CallsD Tryz.prog 68 #[.pointer (some ⟨p, 0, none⟩)] u w fun e u' w' => u' = u ∧ (e = .returned (.tuple #[]) ∧ w' = w.setCell ⟨b, 3, none⟩ (.int .i64 (d - 1))) := by
  go_enter_d Tryz.func68, Tryz.ntmps68
  go_wp2
  go_end0
  exact ⟨rfl, rfl⟩
/-- A depth less. -/
def dn (r : I64 × Ws Nm) : I64 × Ws Nm := (r.1, { r.2 with deep := r.2.deep - 1 })
def up (s : Ws Nm) : Ws Nm := { s with deep := s.deep + 1 }
theorem deep_no {f : Ws Nm → I64 × Ws Nm} (h : ¬ 24 < s.deep + 1) : deepM f s = dn (f (up s)) := by show dn (f (if 24 < s.deep + 1 then failM 52 (up s) else up s)) = _; rw [if_neg h]
theorem deep_fail {f : Ws Nm → I64 × Ws Nm} (h : 24 < s.deep + 1) : deepM f s = dn (f (failM 52 (up s))) := by show dn (f (if 24 < s.deep + 1 then failM 52 (up s) else up s)) = _; rw [if_pos h]
theorem deep_set {W : World} {v1 v2 v3 v4 v5 x : Value} (hB : Blk W b 73 #[v1, v2, v3, v4, v5]) : Blk (W.setCell ⟨b, 2, none⟩ x) b 73 #[v1, v2, x, v4, v5] := hB.set_ 2 _
theorem idle_set {W : World} {v1 v2 v3 v4 v5 x : Value} (hB : Blk W b 73 #[v1, v2, v3, v4, v5]) : Blk (W.setCell ⟨b, 3, none⟩ x) b 73 #[v1, v2, v3, x, v5] := hB.set_ 3 _
set_option maxRecDepth 100000 in
set_option maxHeartbeats 4000000 in
theorem deeper_fn (k : Nat) (first cap : Array Value) (hE : Enters Tryz.prog k) (h : At b G np S w s) (hd : s.deep ≤ 24) (f : Ws Nm → I64 × Ws Nm) (hf : ∀ s, Le cS s (f s).2)
    (hc : ∀ S' W s', At b G np S' W s' → Fr S w S' W → s'.toks.length ≤ s.toks.length → s'.deep = s.deep + 1 → s'.idle = s.idle → D2 s' → Calls Tryz.prog k (first ++ cap) W (Post b G np S' W (f s'))) :
    Calls Tryz.prog 36 #[.pointer (some ⟨b, 0, none⟩), .func (.func k) first cap] w (Post b G np S w (deepM f s)) := by
  have h49 := ld49
  have s49 := st49
  have hH := Lib.hid h
  obtain ⟨a, c, hA⟩ := h
  have hbs := hA.blk.lt
  obtain ⟨p, hp⟩ : ∃ p, w.heap.size = p := ⟨_, rfl⟩
  have hw1 := (show Below w.heap.size w ((w.alloc (.cells #[.pointer (some ⟨b, 0, none⟩)] 71)).alloc o49) from belAl (alB _ _) _)
  have hN := (newB w #[.pointer (some ⟨b, 0, none⟩)] (t := 71) p hp).alloc o49
  have hA1 := hA.below hw1
  obtain ⟨W1, hW1⟩ : ∃ W, (w.alloc (.cells #[.pointer (some ⟨b, 0, none⟩)] 71)).alloc o49 = W := ⟨_, rfl⟩
  rw [hW1] at hw1 hN hA1
  have c2 : W1.cell? ⟨b, 2, none⟩ = some (.int .i64 s.deep) := hA1.blk.cell 2
  have f2 := hA1.blk.frozen 2
  have n0 : W1.cell? ⟨p, 0, none⟩ = some (.pointer (some ⟨b, 0, none⟩)) := hN.cell 0
  have hd0 := hA.ok.d0
  rw [hp] at hbs
  have hw1H := Lib.hid hw1
  have hNH := Lib.hid hN
  have hA1H := Lib.hid hA1
  have hpH := Lib.hid hp
  clear hp
  have hW1H := Lib.hid hW1
  have hEH := Lib.hid hE
  have hcH := Lib.hid hc
  have hfH := Lib.hid hf
  clear hw1 hN hA hA1 hW1 hE hc hf
  have hmf : ∀ (fn : Fn) (first cap : Array Value) (w : World), (Instr.makeFunc fn first cap).run Tryz.prog w = .ok (.func fn first cap) w := fun _ _ _ _ => rfl
  go_enter_defers Tryz.func36, Tryz.ntmps36
  go_upto_region 1 with fail
  rw [hW1H.out, hpH.out]
  go_upto_region 2 with fail
  have hle1 : Ok cS (up s) := by have ho := hA1H.out.ok; exact ⟨by show 0 ≤ s.deep + 1; omega, by show s.deep + 1 ≤ 25; omega, ho.i0, ho.i1, ho.sz, ho.er⟩
  have hA2 : WA b G np S (W1.setCell ⟨b, 2, none⟩ (.int .i64 (s.deep + 1))) (up s) a c := hA1H.out.turn (by simp) (other1 W1 2 _) (deep_set hA1H.out.blk) hA1H.out.tk rfl hle1
  have hF2 : Fr S W1 S (W1.setCell ⟨b, 2, none⟩ (.int .i64 (s.deep + 1))) := Fr.set_ W1 hA1H.out.sb _
  have hN2 : Blk (W1.setCell ⟨b, 2, none⟩ (.int .i64 (s.deep + 1))) p 71 #[.pointer (some ⟨b, 0, none⟩)] := hNH.out.far (by show p ≠ b; omega) _
  obtain ⟨W2, hW2⟩ : ∃ W, W1.setCell ⟨b, 2, none⟩ (.int .i64 (s.deep + 1)) = W := ⟨_, rfl⟩
  rw [hW2] at hA2 hF2 hN2 ⊢
  have n2 : W2.cell? ⟨p, 0, none⟩ = some (.pointer (some ⟨b, 0, none⟩)) := hN2.cell 0
  have e2 : W2.cell? ⟨b, 2, none⟩ = some (.int .i64 (s.deep + 1)) := hA2.blk.cell 2
  have hA2H := Lib.hid hA2
  have hF2H := Lib.hid hF2
  have hN2H := Lib.hid hN2
  clear hA2 hF2 hN2 hW2 c2 n0 f2 hle1
  have hnSp : ¬ S p := fun e => by have := hH.out; obtain ⟨_, _, h9⟩ := this; have := h9.lt p e; have := hpH.out; omega
  have hFw : Hid (Fr S w S W2) := Lib.hid ((Fr.of_below hw1H.out).trans hF2H.out)
  have hnSpH := Lib.hid hnSp
  clear hnSp n2 e2 hmf
  have hmf : ∀ (fn : Fn) (first cap : Array Value) (w : World), (Instr.makeFunc fn first cap).run Tryz.prog w = .ok (.func fn first cap) w := fun _ _ _ _ => rfl
  have n2 : W2.cell? ⟨p, 0, none⟩ = some (.pointer (some ⟨b, 0, none⟩)) := hN2H.out.cell 0
  have e2 : W2.cell? ⟨b, 2, none⟩ = some (.int .i64 (s.deep + 1)) := hA2H.out.blk.cell 2
  rcases (show 24 < s.deep + 1 ∨ ¬ 24 < s.deep + 1 by omega) with h24 | h24
  case' inl =>
    have heq := Lib.hid (deep_fail (f := f) h24)
    go_upto_region 5 with (go_at_call 22; refine (fail_any ⟨a, c, hA2H.out⟩ 52).mono ?_; rintro e w5 ⟨rfl, hA3, hF3⟩; have hA3H := Lib.hid hA3; have hF3H := Lib.hid hF3; clear hA3 hF3)
    have HX := Lib.hid (show ∃ s5, At b G np S w5 s5 ∧ Fr S w S w5 ∧ Blk w5 p 71 #[.pointer (some ⟨b, 0, none⟩)] ∧ D2 s5 ∧ s5.toks.length ≤ s.toks.length ∧ s5.deep = s.deep + 1 ∧ s5.idle = s.idle ∧ deepM f s = dn (f s5) from by
      refine ⟨failM 52 (up s), hA3H.out, hFw.out.trans hF3H.out, hF3H.out.blk hN2H.out hnSpH.out, fun _ => ?_, failM_toks 52 (up s), (failM_le cS 52 (up s)).deep, (failM_le cS 52 (up s)).idle, heq.out⟩
      unfold failM
      split
      · rfl
      · rename_i h9
        by_cases h8 : (up s).err = 0
        · exact absurd ⟨h8, by decide⟩ h9
        · exact hA2H.out.ok.er h8)
    clear heq hA3H hF3H
  case' inr =>
    have heq := Lib.hid (deep_no (f := f) h24)
    obtain ⟨w5, rfl⟩ : ∃ x : World, x = W2 := ⟨_, rfl⟩
    go_upto_region 5 with fail
    have HX := Lib.hid (show ∃ s5, At b G np S w5 s5 ∧ Fr S w S w5 ∧ Blk w5 p 71 #[.pointer (some ⟨b, 0, none⟩)] ∧ D2 s5 ∧ s5.toks.length ≤ s.toks.length ∧ s5.deep = s.deep + 1 ∧ s5.idle = s.idle ∧ deepM f s = dn (f s5) from
      ⟨up s, ⟨a, c, hA2H.out⟩, hFw.out, hN2H.out, fun e9 => by have h9 : s.deep + 1 = 25 := e9; omega, Nat.le_refl _, rfl, rfl, heq.out⟩)
    clear heq
  all_goals
    clear h24 n2 e2 hmf
    obtain ⟨s5, hA5, hF5, hN5, hD5, hL5, hd5, hi5, heq⟩ := HX.out
    have hcall := Lib.hid (hcH.out S w5 s5 hA5 hF5 hL5 hd5 hi5 hD5)
    have hfs := Lib.hid (hfH.out s5)
    have hN5H := Lib.hid hN5
    have hF5H := Lib.hid hF5
    have hd5H := Lib.hid hd5
    have heqH := Lib.hid heq
    clear HX hA5 hF5 hN5 hD5 hL5 hd5 hi5 heq
    have hE' : ∀ (args : Array Value) (w : World), (callFunc k args).run Tryz.prog w = .ok (.enter k args) w := hEH.out
    go_wp2_with (go_at_fn k; refine hcall.out.mono ?_; rintro e w6 ⟨rfl, S6, hA6, hF6⟩; have hA6H := Lib.hid hA6; have hF6H := Lib.hid hF6; clear hA6 hF6)
    obtain ⟨a6, c6, hA6⟩ := hA6H.out
    have hF6 := hF6H.out
    have hN6 := hF6.blk hN5H.out hnSpH.out
    have hdd : (f s5).2.deep = s.deep + 1 := hfs.out.deep.trans hd5H.out
    refine leaves_cons (f := 56) (args := #[.pointer (some ⟨p, 0, none⟩)]) (by simp) (by simp [go_sem]) ?_
    refine (deeper1_d p .returning (f s5).2.deep _ (hN6.cell 0) (hA6.blk.cell 2) (hA6.blk.frozen 2) (by omega) (by omega)).mono ?_
    rintro e u' w'' ⟨rfl, rfl, rfl⟩
    refine ⟨_, results49 rfl _ _ rfl _, ?_⟩
    have ho := hA6.ok
    have hok : Ok cS (dn (f s5)).2 := ⟨by show 0 ≤ (f s5).2.deep - 1; omega, by show (f s5).2.deep - 1 ≤ 25; omega, ho.i0, ho.i1, ho.sz, ho.er⟩
    rw [heqH.out]
    exact ⟨rfl, S6, ⟨a6, c6, hA6.turn (by simp) (other1 w6 2 _) (deep_set hA6.blk) hA6.tk rfl hok⟩, (hF5H.out.trans hF6).trans (Fr.set_ w6 hA6.sb _)⟩
end
end Go.Proofs.YtjbmpockoicgmaaGreat.F
