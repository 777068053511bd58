/- The worker over numbers: aside. Condition: it lies as stated. -/
import Derived.Test.YtjbmpockoicgmaaGreatArH
namespace Go.Proofs.YtjbmpockoicgmaaGreat.I
open Go.RowKit Go.Shelf Go.PlainAid
set_option linter.unusedVariables false
set_option linter.unusedSimpArgs false
attribute [local go_sem] Oper.semAt_some

section
variable {b G np : Nat} {S : Nat → Prop} {w : World} {s : Ws Nm}
/-- A part less. -/
def dnI (r : I64 × Ws Nm) : I64 × Ws Nm := (r.1, { r.2 with idle := r.2.idle - 1 })
def upI (s : Ws Nm) : Ws Nm := { s with idle := s.idle + 1 }
theorem aside_no (f : Ws Nm → I64 × Ws Nm) (s : Ws Nm) : asideM false f s = dnI (f (upI s)) := rfl
theorem aside_yes (f : Ws Nm → I64 × Ws Nm) (s : Ws Nm) : asideM true f s = f s := rfl
set_option maxRecDepth 100000 in
set_option maxHeartbeats 4000000 in
theorem aside_fn (k : Nat) (first cap : Array Value) (wanted : Bool) (hE : Enters Tryz.prog k) (h : At b G np S w s) (hD : D2 s) (hi : s.idle + s.toks.length + 1 ≤ 150000) (f : Ws Nm → I64 × Ws Nm) (hf : ∀ s, Le cS s (f s).2)
    (hc : ∀ W s', At b G np S W s' → Fr S w S W → s'.toks.length ≤ s.toks.length → s'.deep = s.deep → D2 s' → s' = s ∨ s' = upI s → Calls Tryz.prog k (first ++ cap) W (Post b G np S W (f s'))) :
    Calls Tryz.prog 46 #[.pointer (some ⟨b, 0, none⟩), .bool wanted, .func (.func k) first cap] w (Post b G np S w (asideM wanted f s)) := by
  have hH := Lib.hid h
  obtain ⟨a, c, hA⟩ := h
  have hbs := hA.blk.lt
  obtain ⟨p, hp⟩ : ∃ p, w.heap.size = p := ⟨_, rfl⟩
  have hw1 := (show Below w.heap.size w (w.alloc (.cells #[.pointer (some ⟨b, 0, none⟩)] 56)) from alB _ _)
  have hN := newB w #[.pointer (some ⟨b, 0, none⟩)] (t := 56) p hp
  have hA1 := hA.below hw1
  obtain ⟨W1, hW1⟩ : ∃ W, w.alloc (.cells #[.pointer (some ⟨b, 0, none⟩)] 56) = W := ⟨_, rfl⟩
  rw [hW1] at hw1 hN hA1
  have c2 : W1.cell? ⟨b, 3, none⟩ = some (.int .i64 s.idle) := hA1.blk.cell 3
  have f2 := hA1.blk.frozen 3
  have n0 : W1.cell? ⟨p, 0, none⟩ = some (.pointer (some ⟨b, 0, none⟩)) := hN.cell 0
  have hd0 := hA.ok.i0
  have hd1 : s.idle ≤ 150000 := by have := hA.ok.i1; omega
  rw [hp] at hbs
  have hnSp := Lib.hid (show ¬ S p from fun e => by have := hA.lt p e; omega)
  have hw1H := Lib.hid hw1
  have hNH := Lib.hid hN
  have hA1H := Lib.hid hA1
  have hpH := Lib.hid hp
  clear hp
  have hW1H := Lib.hid hW1
  have hcH := Lib.hid hc
  have hfH := Lib.hid hf
  have hDH := Lib.hid hD
  have hiH := Lib.hid hi
  clear hw1 hN hA hA1 hW1 hc hf hD hi
  have hmf : ∀ (fn : Fn) (first cap : Array Value) (w : World), (Instr.makeFunc fn first cap).run Tryz.prog w = .ok (.func fn first cap) w := fun _ _ _ _ => rfl
  have hE' : ∀ (args : Array Value) (w : World), (callFunc k args).run Tryz.prog w = .ok (.enter k args) w := hE
  cases wanted
  · go_enter_defers Tryz.func46, Tryz.ntmps46
    go_upto_region 1 with fail
    rw [hW1H.out, hpH.out]
    go_upto_region 4 with fail
    have hle1 : Ok cS (upI s) := by have ho := hA1H.out.ok; have := hiH.out; exact ⟨ho.d0, ho.d1, by show 0 ≤ s.idle + 1; omega, by show s.idle + 1 + s.toks.length ≤ 150000; omega, ho.sz, ho.er⟩
    have hA2 : WA b G np S (W1.setCell ⟨b, 3, none⟩ (.int .i64 (s.idle + 1))) (upI s) a c := hA1H.out.turn (by simp) (other1 W1 3 _) (idle_set hA1H.out.blk) hA1H.out.tk rfl hle1
    have hF2 : Fr S W1 S (W1.setCell ⟨b, 3, none⟩ (.int .i64 (s.idle + 1))) := Fr.set_ W1 hA1H.out.sb _
    have hN2 : Blk (W1.setCell ⟨b, 3, none⟩ (.int .i64 (s.idle + 1))) p 56 #[.pointer (some ⟨b, 0, none⟩)] := hNH.out.far (by show p ≠ b; omega) _
    obtain ⟨W2, hW2⟩ : ∃ W, W1.setCell ⟨b, 3, none⟩ (.int .i64 (s.idle + 1)) = W := ⟨_, rfl⟩
    rw [hW2] at hA2 hF2 hN2 ⊢
    have hA2H := Lib.hid hA2
    have hFw : Hid (Fr S w S W2) := Lib.hid ((Fr.of_below hw1H.out).trans hF2)
    have hN2H := Lib.hid hN2
    have hcall := Lib.hid (hcH.out W2 (upI s) ⟨a, c, hA2⟩ hFw.out (Nat.le_refl _) rfl hDH.out (.inr rfl))
    have hfs := Lib.hid (hfH.out (upI s))
    clear hA2 hF2 hN2 hW2 c2 n0 f2 hle1
    go_wp2_with (go_at_fn k; refine hcall.out.mono ?_; rintro e w6 ⟨rfl, S6, hA6, hF6⟩; have hA6H := Lib.hid hA6; have hF6H := Lib.hid hF6; clear hA6 hF6)
    obtain ⟨a6, c6, hA6⟩ := hA6H.out
    have hF6 := hF6H.out
    have hN6 := hF6.blk hN2H.out hnSp.out
    have hdd : (f (upI s)).2.idle = s.idle + 1 := hfs.out.idle
    refine leaves_cons (f := 64) (args := #[.pointer (some ⟨p, 0, none⟩)]) (by simp) (by simp [go_sem]) ?_
    refine (aside1_d p .returning (f (upI s)).2.idle _ (hN6.cell 0) (hA6.blk.cell 3) (hA6.blk.frozen 3) (by omega) (by omega)).mono ?_
    rintro e u' w'' ⟨rfl, rfl, rfl⟩
    refine ⟨_, results_tmp rfl _ _ _, ?_⟩
    have ho := hA6.ok
    have hok : Ok cS (dnI (f (upI s))).2 := ⟨ho.d0, ho.d1, by show 0 ≤ (f (upI s)).2.idle - 1; omega, by show (f (upI s)).2.idle - 1 + _ ≤ 150000; have := ho.i1; show (f (upI s)).2.idle - 1 + ((f (upI s)).2.toks.length : Int) ≤ 150000; omega, ho.sz, ho.er⟩
    rw [aside_no]
    exact ⟨rfl, S6, ⟨a6, c6, hA6.turn (by simp) (other1 w6 3 _) (idle_set hA6.blk) hA6.tk rfl hok⟩, (hFw.out.trans hF6).trans (Fr.set_ w6 hA6.sb _)⟩
  · have hcall := Lib.hid (hcH.out W1 s ⟨a, c, hA1H.out⟩ (Fr.of_below hw1H.out) (Nat.le_refl _) rfl hDH.out (.inl rfl))
    go_enter_defers Tryz.func46, Tryz.ntmps46
    go_upto_region 1 with fail
    rw [hW1H.out, hpH.out]
    go_wp2_with (go_at_fn k; refine hcall.out.mono ?_; rintro e w6 ⟨rfl, S6, hA6, hF6⟩; have hA6H := Lib.hid hA6; have hF6H := Lib.hid hF6; clear hA6 hF6)
    refine ⟨_, results_tmp rfl _ _ _, ?_⟩
    rw [aside_yes]
    exact ⟨rfl, S6, hA6H.out, (Fr.of_below hw1H.out).trans hF6H.out⟩
end
end Go.Proofs.YtjbmpockoicgmaaGreat.I
