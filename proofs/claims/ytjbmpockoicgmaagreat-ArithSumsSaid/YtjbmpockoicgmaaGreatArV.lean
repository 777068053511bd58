/- The worker over numbers: operands and operators between them. Condition: it lies as stated; what stands deeper is read as stated. -/
import Derived.Test.YtjbmpockoicgmaaGreatArU
import Derived.Deep.LoopGhost
namespace Go.Proofs.YtjbmpockoicgmaaGreat.I
open Go.RowKit Go.Shelf Go.PlainAid
set_option linter.unusedVariables false
set_option linter.unusedSimpArgs false
attribute [local go_sem] Oper.semAt_some

theorem rank_le (l : List UInt8) : rankL l ≤ 12 := by
  have key : ∀ (T : List (List UInt8 × Nat)), (∀ e ∈ T, e.2 ≤ 12) → ((T.lookup l).getD 0) ≤ 12 := fun T => by
    induction T with
    | nil => intro _; exact Nat.zero_le _
    | cons e T ih =>
      intro h
      obtain ⟨k, v⟩ := e
      rw [List.lookup_cons]
      split
      · exact h (k, v) (List.mem_cons_self ..)
      · exact ih (fun e he => h e (List.mem_cons_of_mem _ he))
  exact key rankT (by decide)
theorem enters_b1 : Enters Tryz.prog 62 := enters_of Tryz.func62 (by kernel_rfl) rfl
section
variable {b G np : Nat} {S : Nat → Prop} {w : World} {s : Ws Nm}
theorem At.drewN_ (h : At b G np S w s) : At b G np S w.drew s := h.below ⟨rfl, rfl, rfl, Nat.le_refl _, fun _ _ => rfl⟩
theorem fr_drew {S' : Nat → Prop} {W : World} (h : Fr S w S' W) : Fr S w S' W.drew := h.trans (Fr.of_below ⟨rfl, rfl, rfl, Nat.le_refl _, fun _ _ => rfl⟩)
set_option maxRecDepth 100000 in
set_option maxHeartbeats 4000000 in
theorem bin1_w {f : Nat} (hCB : CB b G np f) (p q : Nat) (op : ByteArray) (h : At b G np S w s) (hD : D2 s) (hf : 6 * s.toks.length + 3 ≤ f)
    (hP : Blk w p 56 #[ptr b]) (hQ : Blk w q 9 #[.string op]) (hpS : ¬ S p) (hqS : ¬ S q) :
    Calls Tryz.prog 62 #[ptr p, ptr q] w (Post b G np S w (go NM f (.bin (rankL op.toList + 1)) s)) := by
  have hrk := rank_le op.toList
  obtain ⟨r, hr⟩ : ∃ r, rankL op.toList = r := ⟨_, rfl⟩
  have hrank := Lib.hid (fun w => rank_any op w)
  rw [hr] at hrk hrank ⊢
  have hb := Lib.hid (hCB S w.drew s (r + 1) (by omega) h.drewN_ hD hf)
  have hF0 := Lib.hid (fr_drew (Fr.refl S w))
  have n1 : w.drew.cell? ⟨p, 0, none⟩ = some (ptr b) := hP.cell 0
  have nq : w.drew.cell? ⟨q, 0, none⟩ = some (.string op) := hQ.cell 0
  have hPd : Hid (Blk w.drew p 56 #[ptr b]) := Lib.hid hP
  have hQd : Hid (Blk w.drew q 9 #[.string op]) := Lib.hid hQ
  have hpSH := Lib.hid hpS
  have hqSH := Lib.hid hqS
  have hca : Hid (((r + 1 : Nat) : Int) = (r : Int) + 1) := Lib.hid (by omega)
  rw [hca.out] at hb
  have hwr : IntKind.i64.wrap ((r : Int) + 1) = (r : Int) + 1 := IntWalk.i64_in _ (by omega)
  clear h hD hf hP hQ hpS hqS hCB hr
  go_enter Tryz.func62, Tryz.ntmps62
  go_wp2_with fail
  go_region_held3 (fun Z => Z.cell? ⟨p, 0, none⟩ = some (ptr b) ∧ Z.cell? ⟨q, 0, none⟩ = some (.string op)) (first | with_reducible exact ⟨n1, nq⟩ | with_reducible exact ⟨n4, q4⟩ | fail) ((first | (go_at_call 43; refine (hrank.out _).mono ?_; rintro e w' ⟨rfl, rfl⟩) | (go_at_call 42; refine hb.out.mono ?_; rintro e w4 ⟨rfl, S4, hA4, hF4⟩; have n4 : w4.cell? ⟨p, 0, none⟩ = some (ptr b) := (hF4.blk hPd.out hpSH.out).cell 0; have q4 : w4.cell? ⟨q, 0, none⟩ = some (.string op) := (hF4.blk hQd.out hqSH.out).cell 0; have hA4H := Lib.hid hA4; have hF4H := Lib.hid hF4; clear hA4 hF4) | fail))
  go_wp2
  go_ret
  exact ⟨rfl, S4, hA4H.out, hF0.out.trans hF4H.out⟩
theorem lop_no {f r : Nat} {x : I64} (h : ¬ ((peekM s).kind = 3 ∧ r ≤ rankL (peekM s).text.toList)) : go NM (f + 1) (.lop r x) s = (x, s) := by unfold go; rw [if_neg h]
def lopBeh (f : Nat) (s : Ws Nm) : Ws Nm → I64 × Ws Nm := go NM f (.bin (rankL (peekM s).text.toList + 1))
theorem lop_and {f r : Nat} {x : I64} (h : (peekM s).kind = 3 ∧ r ≤ rankL (peekM s).text.toList) (ho : (peekM s).text.toList = [38, 38]) :
    go NM (f + 1) (.lop r x) s = go NM f (.lop r (logicM NM ((x.1 != 0) && ((asideM (x.1 != 0) (lopBeh f s) (nextM s)).1.1 != 0)))) (asideM (x.1 != 0) (lopBeh f s) (nextM s)).2 := by
  conv => lhs; unfold go
  rw [if_pos h]
  dsimp only
  rw [if_pos ho]
  rfl
theorem lop_or {f r : Nat} {x : I64} (h : (peekM s).kind = 3 ∧ r ≤ rankL (peekM s).text.toList) (ho1 : (peekM s).text.toList ≠ [38, 38]) (ho : (peekM s).text.toList = [124, 124]) :
    go NM (f + 1) (.lop r x) s = go NM f (.lop r (logicM NM ((x.1 != 0) || ((asideM (!(x.1 != 0)) (lopBeh f s) (nextM s)).1.1 != 0)))) (asideM (!(x.1 != 0)) (lopBeh f s) (nextM s)).2 := by
  conv => lhs; unfold go
  rw [if_pos h]
  dsimp only
  rw [if_neg ho1, if_pos ho]
  rfl
theorem lop_bin {f r : Nat} {x : I64} (h : (peekM s).kind = 3 ∧ r ≤ rankL (peekM s).text.toList) (ho1 : (peekM s).text.toList ≠ [38, 38]) (ho : (peekM s).text.toList ≠ [124, 124]) :
    go NM (f + 1) (.lop r x) s = go NM f (.lop r (betwM NM (peekM s).text x (lopBeh f s (nextM s)).1 (lopBeh f s (nextM s)).2).1) (betwM NM (peekM s).text x (lopBeh f s (nextM s)).1 (lopBeh f s (nextM s)).2).2 := by
  conv => lhs; unfold go
  rw [if_pos h]
  dsimp only
  rw [if_neg ho1, if_neg ho]
  rfl

/-- What the loop of a binary holds. -/
structure LopI (b G np p f r : Nat) (S : Nat → Prop) (w : World) (s0 : Ws Nm) (x0 : I64) (g : Nat) (x : I64) (s : Ws Nm) (f' : Nat) (S' : Nat → Prop) (W : World) : Prop where
  at_ : At b G np S' W s
  fr : Fr S w S' W
  blk : Blk W p 56 #[ptr b]
  np_ : ¬ S' p
  eq : go NM f (.lop r x0) s0 = go NM f' (.lop r x) s
  len : g = s.toks.length
  fuel : 6 * g + 2 ≤ f'
  le : f' ≤ f
  d2 : D2 s
set_option maxRecDepth 100000 in
set_option maxHeartbeats 16000000 in
theorem bin_w {f : Nat} (hCO : CO b G np f) (hCB : ∀ g, g ≤ f → CB b G np g) : CB b G np (f + 1) := by
  intro S w s r hr h hD hf
  have hok := h.ok
  have hw1 : Below w.heap.size w (w.alloc (.cells #[ptr b] 56)) := alB _ _
  obtain ⟨p, hp⟩ : ∃ p, w.heap.size = p := ⟨_, rfl⟩
  have hN := newB w #[ptr b] (t := 56) p hp
  have hA1 := h.below hw1
  have hF1 := Fr.of_below (S := S) hw1
  have hnSp : ¬ S p := fun e => by obtain ⟨_, _, h9⟩ := h; have := h9.lt p e; omega
  obtain ⟨W1, hW1⟩ : ∃ W, w.alloc (.cells #[ptr b] 56) = W := ⟨_, rfl⟩
  rw [hW1] at hN hA1 hF1
  have n1 : W1.cell? ⟨p, 0, none⟩ = some (ptr b) := hN.cell 0
  have hop := Lib.hid (hCO S W1 s hA1 hD (by omega))
  have hgo : Hid (go NM (f + 1) (.bin r) s = go NM f (.lop r (go NM f .opd s).1) (go NM f .opd s).2) := Lib.hid rfl
  have hle := Lib.hid (go_leN f .opd s)
  obtain ⟨y, hy⟩ : ∃ y, go NM f .opd s = y := ⟨_, rfl⟩
  rw [hy] at hop hgo hle
  have hNH := Lib.hid hN
  have hF1H := Lib.hid hF1
  have hnSpH := Lib.hid hnSp
  have hW1H := Lib.hid hW1
  have hpH := Lib.hid hp
  have hDH := Lib.hid hD
  have hfH := Lib.hid hf
  have hCBH := Lib.hid hCB
  clear h hok hw1 hp hN hA1 hF1 hnSp hW1 hD hf hCO hCB hy
  have hmf : ∀ (fn : Fn) (first cap : Array Value) (w : World), (Instr.makeFunc fn first cap).run Tryz.prog w = .ok (.func fn first cap) w := fun _ _ _ _ => rfl
  have hfd1 : ∀ (x y z : Value) (w : World), (Instr.field 64 (.agg #[x, y, z]) 1).run Tryz.prog w = .ok y w := fun x y z w => by kernel_rfl
  have hfd0 : ∀ (x y z : Value) (w : World), (Instr.field 64 (.agg #[x, y, z]) 0).run Tryz.prog w = .ok x w := fun x y z w => by kernel_rfl
  go_enter Tryz.func42, Tryz.ntmps42
  go_upto_region 1 with fail
  rw [hW1H.out, hpH.out]
  go_wp2_with (go_at_call 61; refine hop.out.mono ?_; rintro e w2 ⟨rfl, S2, hA2, hF2⟩; have hA2H := Lib.hid hA2; have hF2H := Lib.hid hF2; clear hA2 hF2)
  go_loopg [5] y.2.toks.length (fun g s5 wr => ∃ (x : I64) (s' : Ws Nm) (f' : Nat) (S' : Nat → Prop), s5 = .int .i64 x.1 ∧ Hid (LopI b G np p f r S w y.2 y.1 g x s' f' S' wr))
  case atStart =>
    have hl := hle.out.toks
    exact ⟨y.1, y.2, f, S2, rfl, Lib.hid ⟨hA2H.out, hF1H.out.trans hF2H.out, hF2H.out.blk hNH.out hnSpH.out, fun e => (hF2H.out.new p e).elim hnSpH.out (fun h9 => by have := hNH.out.lt; omega), rfl, rfl, by have := hfH.out; omega, Nat.le_refl _, hDH.out.le hle.out⟩⟩
  case round =>
    obtain ⟨x, s', f', S', rfl, hI⟩ := hrel
    have n2 : wr.cell? ⟨p, 0, none⟩ = some (ptr b) := hI.out.blk.cell 0
    have hpk := Lib.hid (peek_any hI.out.at_)
    obtain ⟨f1, hf1⟩ : ∃ q, f' = q + 1 := ⟨f' - 1, by have := hI.out.fuel; omega⟩
    subst hf1
    have hLn := Lib.hid (lop_no (s := s') (f := f1) (r := r) (x := x))
    have hLa := Lib.hid (lop_and (s := s') (f := f1) (r := r) (x := x))
    have hLo := Lib.hid (lop_or (s := s') (f := f1) (r := r) (x := x))
    have hLb := Lib.hid (lop_bin (s := s') (f := f1) (r := r) (x := x))
    have htn := Lib.hid (fun (c : UInt8) (l : List UInt8) (e : (peekM s').text.toList = c :: l) => toks_ne e)
    have hbe := Lib.hid (show lopBeh f1 s' = go NM f1 (.bin (rankL (peekM s').text.toList + 1)) from rfl)
    have hbl := Lib.hid (fun z => show Le cS z (lopBeh f1 s' z).2 from go_leN f1 _ z)
    have htok := Lib.hid (at_tok hI.out.at_)
    have hpk2 := Lib.hid (fun (W : World) (hb : Below wr.heap.size wr W) => peek_any (hI.out.at_.below hb))
    have hnx := Lib.hid (fun (W : World) (hb : Below wr.heap.size wr W) => next_any (hI.out.at_.below hb))
    have hne0 := Lib.hid (show (peekM s').kind = 3 → s'.toks ≠ [] from fun e e9 => by unfold peekM at e; rw [e9] at e; cases e)
    obtain ⟨t, ht⟩ : ∃ t, peekM s' = t := ⟨_, rfl⟩
    rw [ht] at hpk hLn hLa hLo hLb htn hbe htok hpk2 hnx hne0
    clear ht
    have hrk := Lib.hid (fun w => rank_any t.text w)
    obtain ⟨R, hR⟩ : ∃ R, rankL t.text.toList = R := ⟨_, rfl⟩
    rw [hR] at hLn hLa hLo hLb hbe hrk
    have hRH := Lib.hid hR
    clear hR
    cases k3 : ((t.kind : Int) == 3)
    · have hno := Lib.hid (hLn.out (fun h => by rw [h.1] at k3; cases k3))
      go_wp2_with (first | (go_at_call 17; refine hpk.out.mono ?_; rintro e w3 ⟨rfl, hb3⟩; dsimp only [tkV]; have hb3H := Lib.hid hb3; clear hb3))
      go_ret
      rw [hgo.out, hI.out.eq, hno.out]
      exact ⟨rfl, S', hI.out.at_.below hb3H.out, hI.out.fr.trans (Fr.of_below hb3H.out)⟩
    · have e3 : t.kind = 3 := by have := eq_of_beq k3; omega
      have e3H := Lib.hid e3
      clear e3
      by_cases hrR : r ≤ R
      rotate_left
      · have hno := Lib.hid (hLn.out (fun h => hrR h.2))
        go_wp2_with (first | (go_at_call 17; refine (hpk2.out _ hb3H.out).mono ?_; rintro e w4 ⟨rfl, hb4⟩; dsimp only [tkV]; have hb4H := Lib.hid (hb3H.out.trans (hb4.mono hb3H.out.size)); clear hb4) | (go_at_call 17; refine hpk.out.mono ?_; rintro e w3 ⟨rfl, hb3⟩; dsimp only [tkV]; have hb3H := Lib.hid hb3; have n3 : w3.cell? ⟨p, 0, none⟩ = some (ptr b) := (blk_beneath hI.out.blk hb3).cell 0; clear hb3) | (go_at_call 43; refine (hrk.out _).mono ?_; rintro e w' ⟨rfl, rfl⟩))
        go_ret
        rw [hgo.out, hI.out.eq, hno.out]
        exact ⟨rfl, S', hI.out.at_.below hb4H.out, hI.out.fr.trans (Fr.of_below hb4H.out)⟩
      have hgo3 : Hid (t.kind = 3 ∧ r ≤ R) := Lib.hid ⟨e3H.out, hrR⟩
      go_upto_region 4 with (first | (go_at_call 17; refine (hpk2.out _ hb3H.out).mono ?_; rintro e w4 ⟨rfl, hb4⟩; dsimp only [tkV]; have hb4H := Lib.hid (hb3H.out.trans (hb4.mono hb3H.out.size)); have n4 : w4.cell? ⟨p, 0, none⟩ = some (ptr b) := (blk_beneath hI.out.blk hb4H.out).cell 0; clear hb4) | (go_at_call 17; refine hpk.out.mono ?_; rintro e w3 ⟨rfl, hb3⟩; dsimp only [tkV]; have hb3H := Lib.hid hb3; have n3 : w3.cell? ⟨p, 0, none⟩ = some (ptr b) := (blk_beneath hI.out.blk hb3).cell 0; clear hb3) | (go_at_call 43; refine (hrk.out _).mono ?_; rintro e w' ⟨rfl, rfl⟩) | (go_at_call 28; refine (hnx.out _ hb4H.out).mono ?_; rintro e w5 ⟨rfl, hA5, hF5⟩; dsimp only [tkV]; have hA5H := Lib.hid hA5; have hF5H := Lib.hid ((hI.out.fr.trans (Fr.of_below hb4H.out)).trans hF5); have hB5 := Lib.hid (hF5.blk (blk_beneath hI.out.blk hb4H.out) hI.out.np_); clear hA5 hF5))
      obtain ⟨q, hq⟩ : ∃ q, w5.heap.size = q := ⟨_, rfl⟩
      have hT := newB w5 #[.string t.text] (t := 9) q hq
      have hb6 : Below w5.heap.size w5 (w5.alloc (.cells #[.string t.text] 9)) := alB _ _
      obtain ⟨W6, hW6⟩ : ∃ W, w5.alloc (.cells #[.string t.text] 9) = W := ⟨_, rfl⟩
      rw [hW6] at hT hb6 ⊢
      rw [hq]
      have hA6 := hA5H.out.below hb6
      have hqS : ¬ S' q := fun e => by have := hA5H.out; obtain ⟨_, _, h9⟩ := this; have := h9.lt q e; omega
      have hB6 := blk_beneath hB5.out hb6
      have n6 : W6.cell? ⟨p, 0, none⟩ = some (ptr b) := hB6.cell 0
      have q6 : W6.cell? ⟨q, 0, none⟩ = some (.string t.text) := hT.cell 0
      have c6 : W6.cell? ⟨b, 0, none⟩ = some (mv np) := by obtain ⟨_, _, h9⟩ := hA6; exact h9.blk.cell 0
      have hF6 := Lib.hid (hF5H.out.trans (Fr.of_below (S := S') hb6))
      have hA6H := Lib.hid hA6
      have hTH := Lib.hid hT
      have hB6H := Lib.hid hB6
      have hqSH := Lib.hid hqS
      clear hq hW6 hT hb6 hA6 hqS hB6 hrR n2 n3 n4
      have hmt : ∀ w, (method 245 41 (.pointer (some ⟨np, 0, none⟩)) "shyard/arith.truth").run Tryz.prog w = .ok (91, .pointer (some ⟨np, 0, none⟩)) w := fun w => by kernel_rfl
      obtain ⟨tr, htr⟩ : ∃ tr, (x.1 != 0) = tr := ⟨_, rfl⟩
      rw [htr] at hLa hLo
      have hne := Lib.hid (hne0.out e3H.out)
      have htl := Lib.hid (tail_len hne.out)
      have hlen := Lib.hid hI.out.len
      go_upto_region 6 with (go_at_call 91; refine (truth_int _ _ _).mono ?_; rintro e w7 ⟨rfl, rfl⟩; rw [htr])
      have hcl := Lib.hid (show ∀ (S'' : Nat → Prop) (W : World) (z : Ws Nm), At b G np S'' W z → Fr S' W6 S'' W → z.toks.length ≤ (nextM s').toks.length → D2 z → Calls Tryz.prog 62 #[ptr p, ptr q] W (Post b G np S'' W (lopBeh f1 s' z)) from fun S'' W z hA hF hL hD2 => by
        have h9 := bin1_w (hCBH.out f1 (by have := hI.out.le; omega)) p q t.text hA hD2 (by have := hI.out.fuel; have := htl.out; have := hlen.out; omega) (hF.blk hB6H.out hI.out.np_) (hF.blk hTH.out hqSH.out) (fun e => (hF.new p e).elim hI.out.np_ (fun h8 => by have := hB6H.out.lt; omega)) (fun e => (hF.new q e).elim hqSH.out (fun h8 => by have := hTH.out.lt; omega))
        rw [hRH.out, ← hbe.out] at h9
        exact h9)
      have hD6 := Lib.hid (hI.out.d2.le (nextM_le cS s'))
      have hi6 := Lib.hid (show (nextM s').idle + (nextM s').toks.length + 1 ≤ 150000 from by have := hI.out.at_.ok.i1; have := htl.out; show s'.idle + _ + 1 ≤ 150000; omega)
      have hbo : ∀ wanted, Calls Tryz.prog 46 #[.pointer (some ⟨b, 0, none⟩), .bool wanted, .func (.func 62) #[] #[ptr p, ptr q]] W6 (Post b G np S' W6 (asideM wanted (lopBeh f1 s') (nextM s'))) := fun wanted => aside_fn 62 #[] #[ptr p, ptr q] wanted enters_b1 hA6H.out hD6.out hi6.out (lopBeh f1 s') hbl.out (fun W z hA hF hL hdp hD2 _ => by
        have h9 := hcl.out S' W z hA hF hL hD2
        simpa using h9)
      have hasd := Lib.hid hbo
      clear hbo
      -- how a round ends
      have hend := Lib.hid (show ∀ (x2 : I64) (s2 : Ws Nm) (S2 : Nat → Prop) (W : World), go NM (f1 + 1) (.lop r x) s' = go NM f1 (.lop r x2) s2 → At b G np S2 W s2 → Fr S' W6 S2 W → Le cS (nextM s') s2 → s2.toks.length < gk ∧ LopI b G np p f r S w y.2 y.1 s2.toks.length x2 s2 f1 S2 W from fun x2 s2 S2 W he hA hF hL => by
        have g1 := hL.toks
        have g2 := htl.out
        have g3 := hlen.out
        have g4 := hI.out.fuel
        have g5 := hI.out.le
        exact ⟨by omega, hA, hF6.out.trans hF, hF.blk hB6H.out hI.out.np_, fun e => (hF.new p e).elim hI.out.np_ (fun h8 => by have := hB6H.out.lt; omega), hI.out.eq.trans he, rfl, by omega, by omega, hD6.out.le hL⟩)
      have hpS := Lib.hid hI.out.np_
      cases o1 : (t.text.toList == [38, 38])
      rotate_left
      · have hE := Lib.hid (hLa.out hgo3.out (eq_of_beq o1))
        have hLe := Lib.hid (asideM_le (b := tr) hbl.out (nextM s'))
        obtain ⟨Y, hY⟩ : ∃ Y, asideM tr (lopBeh f1 s') (nextM s') = Y := ⟨_, rfl⟩
        have has := Lib.hid (hasd.out tr)
        rw [hY] at hE hLe has
        clear hY
        go_upto_region 10 with (go_at_call 46; refine has.out.mono ?_; rintro e w8 ⟨rfl, S8, hA8, hF8⟩; have n8 : w8.cell? ⟨p, 0, none⟩ = some (ptr b) := (hF8.blk hB6H.out hpS.out).cell 0; have c8 : w8.cell? ⟨b, 0, none⟩ = some (mv np) := (by obtain ⟨_, _, h9⟩ := hA8; exact h9.blk.cell 0); have hA8H := Lib.hid hA8; have hF8H := Lib.hid hF8; clear hA8 hF8)
        have hA8d := Lib.hid (fun n => show At b G np S8 (w8.drewN n) Y.2 from hA8H.out.below ⟨rfl, rfl, rfl, Nat.le_refl _, fun _ _ => rfl⟩)
        have hF8d := Lib.hid (fun n => show Fr S' W6 S8 (w8.drewN n) from hF8H.out.trans (Fr.of_below ⟨rfl, rfl, rfl, Nat.le_refl _, fun _ _ => rfl⟩))
        have hmm := Lib.hid (hend.out _ _ S8 w8 hE.out hA8H.out hF8H.out hLe.out).1
        cases tr
        all_goals
          go_quiet ((first | (go_at_call 91; exact Calls.quiet_of_same ((truth_int _ _ _).mono (by rintro e w' ⟨rfl, rfl⟩; exact ⟨rfl, rfl⟩))) | (go_at_call 63; exact Calls.quiet_of_same ((logic_w (hA8d.out _) _).mono (by rintro e w' ⟨rfl, rfl⟩; exact ⟨rfl, rfl⟩)))))
          go_wp2
          go_roundg Y.2.toks.length
          case measure => exact hmm.out
          case rel => exact ⟨_, Y.2, f1, S8, rfl, Lib.hid (hend.out _ _ S8 _ hE.out (hA8d.out _) (hF8d.out _) hLe.out).2⟩
      cases o2 : (t.text.toList == [124, 124])
      rotate_left
      · have hE := Lib.hid (hLo.out hgo3.out (ne_of_beq o1) (eq_of_beq o2))
        have hLe := Lib.hid (asideM_le (b := !tr) hbl.out (nextM s'))
        obtain ⟨Y, hY⟩ : ∃ Y, asideM (!tr) (lopBeh f1 s') (nextM s') = Y := ⟨_, rfl⟩
        have has := Lib.hid (hasd.out (!tr))
        rw [hY] at hE hLe has
        clear hY
        go_upto_region 13 with (go_at_call 46; refine has.out.mono ?_; rintro e w8 ⟨rfl, S8, hA8, hF8⟩; have n8 : w8.cell? ⟨p, 0, none⟩ = some (ptr b) := (hF8.blk hB6H.out hpS.out).cell 0; have c8 : w8.cell? ⟨b, 0, none⟩ = some (mv np) := (by obtain ⟨_, _, h9⟩ := hA8; exact h9.blk.cell 0); have hA8H := Lib.hid hA8; have hF8H := Lib.hid hF8; clear hA8 hF8)
        have hA8d := Lib.hid (fun n => show At b G np S8 (w8.drewN n) Y.2 from hA8H.out.below ⟨rfl, rfl, rfl, Nat.le_refl _, fun _ _ => rfl⟩)
        have hF8d := Lib.hid (fun n => show Fr S' W6 S8 (w8.drewN n) from hF8H.out.trans (Fr.of_below ⟨rfl, rfl, rfl, Nat.le_refl _, fun _ _ => rfl⟩))
        have hmm := Lib.hid (hend.out _ _ S8 w8 hE.out hA8H.out hF8H.out hLe.out).1
        cases tr
        all_goals
          go_quiet ((first | (go_at_call 91; exact Calls.quiet_of_same ((truth_int _ _ _).mono (by rintro e w' ⟨rfl, rfl⟩; exact ⟨rfl, rfl⟩))) | (go_at_call 63; exact Calls.quiet_of_same ((logic_w (hA8d.out _) _).mono (by rintro e w' ⟨rfl, rfl⟩; exact ⟨rfl, rfl⟩)))))
          go_wp2
          go_roundg Y.2.toks.length
          case measure => exact hmm.out
          case rel => exact ⟨_, Y.2, f1, S8, rfl, Lib.hid (hend.out _ _ S8 _ hE.out (hA8d.out _) (hF8d.out _) hLe.out).2⟩
      have hE := Lib.hid (hLb.out hgo3.out (ne_of_beq o1) (ne_of_beq o2))
      have hA6d : At b G np S' W6.drew (nextM s') := hA6H.out.drewN_
      have hF6d : Fr S' W6 S' W6.drew := fr_drew (Fr.refl S' W6)
      have hLb1 := Lib.hid (hbl.out (nextM s'))
      have hcd := Lib.hid (hcl.out S' W6.drew (nextM s') hA6d hF6d (Nat.le_refl _) hD6.out)
      obtain ⟨Y, hY⟩ : ∃ Y, lopBeh f1 s' (nextM s') = Y := ⟨_, rfl⟩
      rw [hY] at hE hLb1 hcd
      have hF6dH := Lib.hid hF6d
      have n6d : W6.drew.cell? ⟨p, 0, none⟩ = some (ptr b) := n6
      have q6d : W6.drew.cell? ⟨q, 0, none⟩ = some (.string t.text) := q6
      have hB6d : Hid (Blk W6.drew p 56 #[ptr b]) := Lib.hid hB6H.out
      have hT6d : Hid (Blk W6.drew q 9 #[.string t.text]) := Lib.hid hTH.out
      clear hY hA6d hF6d
      go_upto_region 7 with fail
      go_region_held3 (fun Z => Z.cell? ⟨p, 0, none⟩ = some (ptr b) ∧ Z.cell? ⟨q, 0, none⟩ = some (.string t.text)) (first | with_reducible exact ⟨n6d, q6d⟩ | with_reducible exact ⟨n8, q8⟩ | with_reducible exact ⟨n9, q9⟩ | fail) ((first | (go_at_call 62; refine hcd.out.mono ?_; rintro e w8 ⟨rfl, S8, hA8, hF8⟩; have n8 : w8.cell? ⟨p, 0, none⟩ = some (ptr b) := (hF8.blk hB6d.out hpS.out).cell 0; have q8 : w8.cell? ⟨q, 0, none⟩ = some (.string t.text) := (hF8.blk hT6d.out hqSH.out).cell 0; have hB8 := Lib.hid (hF8.blk hB6d.out hpS.out); have hT8 := Lib.hid (hF8.blk hT6d.out hqSH.out); have hnn : Hid (¬ S8 p ∧ ¬ S8 q) := Lib.hid ⟨fun e => (hF8.new p e).elim hpS.out (fun h8 => by have := hB6d.out.lt; omega), fun e => (hF8.new q e).elim hqSH.out (fun h8 => by have := hT6d.out.lt; omega)⟩; have hA8H := Lib.hid hA8; have hF8H := Lib.hid (hF6dH.out.trans hF8); clear hA8 hF8) | (go_at_call 31; refine (between_w hA8H.out t.text x Y.1).mono ?_; rintro e w9 ⟨rfl, hA9, hF9⟩; have n9 : w9.cell? ⟨p, 0, none⟩ = some (ptr b) := (hF9.blk hB8.out hnn.out.1).cell 0; have q9 : w9.cell? ⟨q, 0, none⟩ = some (.string t.text) := (hF9.blk hT8.out hnn.out.2).cell 0; have hA9H := Lib.hid hA9; have hF9H := Lib.hid (hF8H.out.trans hF9); clear hA9 hF9) | fail))
      have hL9 := Lib.hid (hLb1.out.trans (betwM_le cS NM t.text x Y.1 Y.2))
      have hfin := Lib.hid (hend.out _ _ S8 w9 hE.out hA9H.out hF9H.out hL9.out)
      go_wp2
      go_roundg (betwM NM t.text x Y.1 Y.2).2.toks.length
      case measure => exact hfin.out.1
      case rel => exact ⟨_, _, f1, S8, rfl, Lib.hid hfin.out.2⟩
end
end Go.Proofs.YtjbmpockoicgmaaGreat.I
