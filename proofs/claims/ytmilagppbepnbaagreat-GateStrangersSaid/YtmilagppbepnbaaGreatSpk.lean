/- What every call keeps: bounds, what descriptions are. No condition. -/
import Derived.Test.YtmilagppbepnbaaGreatSpj
namespace Go.Proofs.YtmilagppbepnbaaGreat.Kn
open Go.RowKit Go.PlainAid
set_option linter.unusedVariables false
set_option linter.unusedSimpArgs false
/-- A step that makes no description and says nothing. -/
structure Tame (K K' : Ker) : Prop where
  dsc : ∀ j D', ask K'.descs j = some D' → ∃ D, ask K.descs j = some D ∧ D'.kind = D.kind ∧ D'.n = D.n ∧ D'.at_ = D.at_ ∧ D'.text = D.text ∧ D'.flags = D.flags ∧ D'.pipe = D.pipe
  ty : K'.typed = K.typed
  cl : K'.closed = K.closed
  o1 : K'.out1 = K.out1
  o2 : K'.out2 = K.out2
  lx : K'.lastX = K.lastX
  ld : K'.lastD = K.lastD
theorem Tame.refl (K : Ker) : Tame K K := ⟨fun j D h => ⟨D, h, rfl, rfl, rfl, rfl, rfl, rfl⟩, rfl, rfl, rfl, rfl, rfl, rfl⟩
theorem Tame.trans {K K1 K2 : Ker} (h : Tame K K1) (g : Tame K1 K2) : Tame K K2 :=
  ⟨fun j D' hD => by
    obtain ⟨D1, h1, e1, e2, e3, e4, e5, e6⟩ := g.dsc j D' hD
    obtain ⟨D, h0, f1, f2, f3, f4, f5, f6⟩ := h.dsc j D1 h1
    exact ⟨D, h0, e1.trans f1, e2.trans f2, e3.trans f3, e4.trans f4, e5.trans f5, e6.trans f6⟩, g.ty.trans h.ty, g.cl.trans h.cl, g.o1.trans h.o1, g.o2.trans h.o2, g.lx.trans h.lx, g.ld.trans h.ld⟩
theorem tame_same {K K' : Ker} (h : K'.descs = K.descs) (h1 : K'.typed = K.typed) (h2 : K'.closed = K.closed) (h3 : K'.out1 = K.out1) (h4 : K'.out2 = K.out2) (h5 : K'.lastX = K.lastX) (h6 : K'.lastD = K.lastD) : Tame K K' :=
  ⟨fun j D hD => ⟨D, by rw [h] at hD; exact hD, rfl, rfl, rfl, rfl, rfl, rfl⟩, h1, h2, h3, h4, h5, h6⟩
theorem tame_R (K : Ker) (n : Nat) (P : Prc) : Tame K (setR K n P) := tame_same rfl rfl rfl rfl rfl rfl rfl
theorem tame_F (K : Ker) (f : Fs) : Tame K (setF K f) := tame_same rfl rfl rfl rfl rfl rfl rfl
theorem tame_X (K : Ker) (n : Nat) (s : Pp.St) : Tame K (setX K n s) := tame_same rfl rfl rfl rfl rfl rfl rfl
theorem tame_cutX (K : Ker) (n : Nat) : Tame K (cutKX K n) := tame_same rfl rfl rfl rfl rfl rfl rfl
theorem tame_cutR (K : Ker) (n : Nat) : Tame K (cutKR K n) := tame_same rfl rfl rfl rfl rfl rfl rfl
theorem tame_D {K : Ker} {m : Nat} {D D' : Dsc} (hD : ask K.descs m = some D) (h1 : D'.kind = D.kind) (h2 : D'.n = D.n) (h3 : D'.at_ = D.at_) (h4 : D'.text = D.text) (h5 : D'.flags = D.flags) (h6 : D'.pipe = D.pipe) : Tame K (setD K m D') :=
  ⟨fun j E hE => by
    have h7 : ask (put1 K.descs m D') j = some E := hE
    rw [ask_put hD] at h7
    by_cases e : j = m
    · rw [if_pos e] at h7; cases h7; exact ⟨D, by rw [e]; exact hD, h1, h2, h3, h4, h5, h6⟩
    · rw [if_neg e] at h7; exact ⟨E, h7, rfl, rfl, rfl, rfl, rfl, rfl⟩, rfl, rfl, rfl, rfl, rfl, rfl⟩
theorem tame_cutD (K : Ker) (m : Nat) : Tame K (cutKD K m) :=
  ⟨fun j E hE => by
    have h7 : ask (cut1 K.descs m) j = some E := hE
    rw [ask_cut] at h7
    by_cases e : j = m
    · rw [if_pos e] at h7; cases h7
    · rw [if_neg e] at h7; exact ⟨E, h7, rfl, rfl, rfl, rfl, rfl, rfl⟩, rfl, rfl, rfl, rfl, rfl, rfl⟩
theorem tame_let (K : Ker) (m : Nat) : Tame K (letM K m) := by
  unfold letM
  split
  · exact Tame.refl K
  · rename_i D hD
    have h1 : Tame K (setD K m { D with refs := D.refs - 1 }) := tame_D hD rfl rfl rfl rfl rfl rfl
    have h2 := h1.trans (tame_cutD _ m)
    split
    · exact h1
    · split
      · exact h2.trans (tame_F _ _)
      · split
        · split
          · split
            · exact (h2.trans (tame_X _ _ _)).trans (tame_cutX _ _)
            · exact h2.trans (tame_X _ _ _)
          · exact h2
        · exact h2
theorem tame_inc (K : Ker) (m : Nat) : Tame K (incM K m) := by
  unfold incM
  split
  · rename_i D hD; exact tame_D hD rfl rfl rfl rfl rfl rfl
  · exact Tame.refl K
theorem tame_close (K : Ker) (n : Nat) (P : Prc) (fd : Int) : Tame K (closeM K n P fd) := by
  unfold closeM
  split
  · exact (tame_R _ _ _).trans (tame_let _ _)
  · exact Tame.refl K
theorem tame_closeN (K : Ker) (n fd : Nat) : Tame K (closeN K n fd) := by
  unfold closeN
  split
  · exact tame_close _ _ _ _
  · exact Tame.refl K
theorem tame_closeL (n : Nat) : ∀ (l : List (Fin 32 × Int)) (K : Ker), Tame K (closeL K n l)
  | [], K => Tame.refl K
  | x :: l, K => (tame_closeN K n x.1.1).trans (tame_closeL n l (closeN K n x.1.1))
theorem tame_letL : ∀ (l : List Int) (K : Ker), Tame K (letL K l)
  | [], K => Tame.refl K
  | x :: l, K => (tame_let K x.toNat).trans (tame_letL l (letM K x.toNat))
theorem tame_incL : ∀ (l : List (Fin 32 × Int)) (K : Ker), Tame K (incL K l)
  | [], K => Tame.refl K
  | x :: l, K => (tame_inc K x.2.toNat).trans (tame_incL l (incM K x.2.toNat))
theorem tame_end (K : Ker) (n : Nat) (P : Prc) (st : Int) : Tame K (endM K n P st) :=
  ((tame_closeL n (Pp.upto P.tab 32) K).trans (tame_same (K' := endK K n P) rfl rfl rfl rfl rfl rfl rfl)).trans (tame_R _ _ _)
theorem tame_exec (K : Ker) (n : Nat) (P : Prc) : Tame K (execM K n P) := (tame_R _ _ _).trans (tame_letL _ _)
theorem tame_dup (K : Ker) (n : Nat) (P : Prc) (fd l : Int) : Tame K (dupM K n P fd l).2.2 := by
  unfold dupM
  split
  · exact Tame.refl K
  · split
    · exact (tame_R _ _ _).trans (tame_inc _ _)
    · exact Tame.refl K
theorem tame_dup2 (K : Ker) (n : Nat) (P : Prc) (fd o : Int) : Tame K (dup2M K n P fd o).2.2 := by
  have h : ∀ m, Tame K (dup2K K n P m o) := fun m => (tame_R _ _ _).trans (tame_inc _ _)
  unfold dup2M
  split
  · exact Tame.refl K
  · split
    · exact Tame.refl K
    · split
      · exact Tame.refl K
      · split
        · exact (h _).trans (tame_let _ _)
        · exact h _
theorem tame_fork (K : Ker) (P : Prc) : Tame K (forkM K P).2.2 := by
  unfold forkM
  split
  · exact Tame.refl K
  · exact (tame_incL _ _).trans (tame_same (K' := putR (setF (incL K (Pp.upto P.tab 32)) (HoldM K.fs P.dir).2) (kidP K P)) rfl rfl rfl rfl rfl rfl rfl)
/-- What all calls keep: b calls, z bytes written. -/
structure Inv (b z : Nat) (K : Ker) : Prop where
  ok : OK K
  wf : WF (4 * b) K.fs
  bd : K.lastD ≤ 3 + 2 * b
  bx : K.lastX ≤ b
  br : K.lastR ≤ 1 + b
  ty : K.typed.size ≤ 4096
  out : K.out1.length + K.out2.length ≤ z
  dsc : ∀ m D, ask K.descs m = some D → (D.kind = 1 ∧ D.n ≤ 2 ∨ D.kind = 2 ∨ D.kind = 3 ∨ D.kind = 4 ∨ D.kind = 5) ∧ D.at_ ≤ 70000 * b + z ∧ (D.kind = 5 → D.at_ ≤ D.text.size ∧ D.text.size ≤ z)
theorem Inv.more {b z b' z' : Nat} {K : Ker} (h : Inv b z K) (hb : b ≤ b') (hz : z ≤ z') : Inv b' z' K :=
  ⟨h.ok, h.wf.mono (by omega), by have := h.bd; omega, by have := h.bx; omega, by have := h.br; omega, h.ty, by have := h.out; omega, fun m D hD => by
    obtain ⟨h1, h2, h3⟩ := h.dsc m D hD
    exact ⟨h1, by have := Nat.mul_le_mul_left 70000 hb; omega, fun e => ⟨(h3 e).1, by have := (h3 e).2; omega⟩⟩⟩
theorem Inv.tame {b z : Nat} {K K' : Ker} (h : Inv b z K) (t : Tame K K') (hok : OK K') (hw : WF (4 * b) K'.fs) (hr : K'.lastR ≤ 1 + b) : Inv b z K' :=
  ⟨hok, hw, by rw [t.ld]; exact h.bd, by rw [t.lx]; exact h.bx, hr, by rw [t.ty]; exact h.ty, by rw [t.o1, t.o2]; exact h.out, fun m D' hD => by
    obtain ⟨D, h0, e1, e2, e3, e4, e5, e6⟩ := t.dsc m D' hD
    obtain ⟨h1, h2, h3⟩ := h.dsc m D h0
    rw [e1, e2, e3, e4]
    exact ⟨h1, h2, h3⟩⟩
/-- A description more. -/
theorem dsc_inst {b z : Nat} {K : Ker} (h : ∀ m D, ask K.descs m = some D → (D.kind = 1 ∧ D.n ≤ 2 ∨ D.kind = 2 ∨ D.kind = 3 ∨ D.kind = 4 ∨ D.kind = 5) ∧ D.at_ ≤ 70000 * b + z ∧ (D.kind = 5 → D.at_ ≤ D.text.size ∧ D.text.size ≤ z)) (hn : Nmb K) (n : Nat) (P : Prc) {E : Dsc}
    (hE : (E.kind = 1 ∧ E.n ≤ 2 ∨ E.kind = 2 ∨ E.kind = 3 ∨ E.kind = 4 ∨ E.kind = 5) ∧ E.at_ ≤ 70000 * b + z ∧ (E.kind = 5 → E.at_ ≤ E.text.size ∧ E.text.size ≤ z)) :
    ∀ m D, ask (instM K n P E).descs m = some D → (D.kind = 1 ∧ D.n ≤ 2 ∨ D.kind = 2 ∨ D.kind = 3 ∨ D.kind = 4 ∨ D.kind = 5) ∧ D.at_ ≤ 70000 * b + z ∧ (D.kind = 5 → D.at_ ≤ D.text.size ∧ D.text.size ≤ z) := fun m D hD => by
  have h1 : ask (K.descs ++ [(K.lastD + 1, { E with refs := 1 })]) m = some D := hD
  rw [ask_app (fun p hp => by have := (hn.ld p hp).2; omega)] at h1
  by_cases e : m = K.lastD + 1
  · rw [if_pos e] at h1; cases h1; exact hE
  · rw [if_neg e] at h1; exact h m D h1
theorem dsc_put {b z : Nat} {K : Ker} (h : ∀ m D, ask K.descs m = some D → (D.kind = 1 ∧ D.n ≤ 2 ∨ D.kind = 2 ∨ D.kind = 3 ∨ D.kind = 4 ∨ D.kind = 5) ∧ D.at_ ≤ 70000 * b + z ∧ (D.kind = 5 → D.at_ ≤ D.text.size ∧ D.text.size ≤ z)) {k : Nat} {E0 E : Dsc} (h0 : ask K.descs k = some E0)
    (hE : (E.kind = 1 ∧ E.n ≤ 2 ∨ E.kind = 2 ∨ E.kind = 3 ∨ E.kind = 4 ∨ E.kind = 5) ∧ E.at_ ≤ 70000 * b + z ∧ (E.kind = 5 → E.at_ ≤ E.text.size ∧ E.text.size ≤ z)) :
    ∀ m D, ask (setD K k E).descs m = some D → (D.kind = 1 ∧ D.n ≤ 2 ∨ D.kind = 2 ∨ D.kind = 3 ∨ D.kind = 4 ∨ D.kind = 5) ∧ D.at_ ≤ 70000 * b + z ∧ (D.kind = 5 → D.at_ ≤ D.text.size ∧ D.text.size ≤ z) := fun m D hD => by
  have h1 : ask (put1 K.descs k E) m = some D := hD
  rw [ask_put h0] at h1
  by_cases e : m = k
  · rw [if_pos e] at h1; cases h1; exact hE
  · rw [if_neg e] at h1; exact h m D h1
theorem read_len {c : Nat} {f : Fs} (hw : WF c f) (n a k : Int) : (ReadM f n a k).1.size ≤ 65536 := by
  unfold ReadM
  cases hn : node f n with
  | none => exact Nat.zero_le _
  | some I =>
    dsimp only
    split
    · exact Nat.zero_le _
    · split
      · exact Nat.zero_le _
      · obtain ⟨i, rfl, _, hi⟩ := node_some hn
        have h1 := bytes_ge f i I hi
        have h2 := hw.bytes
        show (readL I.data a k).toArray.size ≤ 65536
        have h3 : (readL I.data a k).length ≤ I.data.length := by
          unfold readL
          first
            | (split <;> first | exact Nat.zero_le _ | (rw [List.length_take, List.length_drop]; omega))
            | (rw [List.length_take, List.length_drop]; omega)
        rw [List.size_toArray]
        omega
theorem trunc_ker (K : Ker) (P : Prc) (fd sz : Int) : (truncKM K P fd sz).2 = K ∨ ∃ f, (truncKM K P fd sz).2 = setF K f ∧ ∃ n : Nat, f = (TruncM K.fs n sz).2 := by
  unfold truncKM
  split
  · exact .inl rfl
  · split
    · split
      · exact .inl rfl
      · exact .inr ⟨_, rfl, _, rfl⟩
    · exact .inl rfl
end Go.Proofs.YtmilagppbepnbaaGreat.Kn
/- What every call leaves is so bounded. No condition. -/
namespace Go.Proofs.YtmilagppbepnbaaGreat.Kn
open Go.RowKit Go.PlainAid
set_option linter.unusedVariables false
set_option linter.unusedSimpArgs false
theorem ok_typed {K : Ker} (h : OK K) (t : ByteArray) : OK { K with typed := t } := ⟨⟨h.num.ox, h.num.od, h.num.or_, h.num.lx, h.num.ld, h.num.lr, h.num.bx, h.num.bd, h.num.br⟩, h.len, h.cnt, h.has, h.exc, h.key, h.dead, h.pip, h.nop, h.pr, h.exr⟩
theorem ok_out1 {K : Ker} (h : OK K) (t : List UInt8) : OK { K with out1 := t } := ⟨⟨h.num.ox, h.num.od, h.num.or_, h.num.lx, h.num.ld, h.num.lr, h.num.bx, h.num.bd, h.num.br⟩, h.len, h.cnt, h.has, h.exc, h.key, h.dead, h.pip, h.nop, h.pr, h.exr⟩
theorem ok_out2 {K : Ker} (h : OK K) (t : List UInt8) : OK { K with out2 := t } := ⟨⟨h.num.ox, h.num.od, h.num.or_, h.num.lx, h.num.ld, h.num.lr, h.num.bx, h.num.bd, h.num.br⟩, h.len, h.cnt, h.has, h.exc, h.key, h.dead, h.pip, h.nop, h.pr, h.exr⟩
section
variable {b z : Nat} {K : Ker} {n : Nat} {P : Prc}
theorem inv_setF (hI : Inv b z K) {f : Fs} (h : WF (4 * b + 4) f) : Inv (b + 1) z (setF K f) := by
  have h2 := hI.more (Nat.le_succ b) (Nat.le_refl z)
  exact h2.tame (tame_F K f) (OKd.fileF hI.ok f) (by rw [show 4 * (b + 1) = 4 * b + 4 by omega]; exact h) h2.br
theorem inv_close (hI : Inv b z K) (hP : ask K.procs n = some P) (hl : P.ended = false) (fd : Int) : Inv b z (closeM K n P fd) :=
  hI.tame (tame_close _ _ _ _) (hI.ok.close hP hl fd) (closeM_wf hI.wf _ _ _) (by rw [(closeM_eq K n P fd).2.2]; exact hI.br)
theorem inv_dup (hI : Inv b z K) (hP : ask K.procs n = some P) (hl : P.ended = false) (fd l : Int) : Inv b z (dupM K n P fd l).2.2 := by
  have h : (dupM K n P fd l).2.2.fs = K.fs ∧ (dupM K n P fd l).2.2.lastR = K.lastR := by
    unfold dupM
    split
    · exact ⟨rfl, rfl⟩
    · split
      · obtain ⟨h1, _, _, _, _, h2⟩ := incM_eq (setR K n { P with tab := (tputM P.tab (tabM P.tab fd).1 l).2.2 }) (tabM P.tab fd).1.toNat
        exact ⟨h1, h2⟩
      · exact ⟨rfl, rfl⟩
  exact hI.tame (tame_dup _ _ _ _ _) (hI.ok.dup hP hl fd l) (by rw [h.1]; exact hI.wf) (by rw [h.2]; exact hI.br)
theorem inv_dup2 (hI : Inv b z K) (hP : ask K.procs n = some P) (hl : P.ended = false) (fd o : Int) : Inv b z (dup2M K n P fd o).2.2 := by
  have h0 : ∀ m, (dup2K K n P m o).fs = K.fs ∧ (dup2K K n P m o).lastR = K.lastR := fun m => by
    obtain ⟨h1, _, _, _, _, h2⟩ := incM_eq (setR K n { P with tab := (tsetM P.tab o (m : Int)).2.2.2 }) m
    exact ⟨h1, h2⟩
  have h : WF (4 * b) (dup2M K n P fd o).2.2.fs ∧ (dup2M K n P fd o).2.2.lastR = K.lastR := by
    unfold dup2M
    split
    · exact ⟨hI.wf, rfl⟩
    · split
      · exact ⟨hI.wf, rfl⟩
      · split
        · exact ⟨hI.wf, rfl⟩
        · split
          · exact ⟨letM_wf (by rw [(h0 _).1]; exact hI.wf) _, by rw [(letM_eq _ _).2.2.2]; exact (h0 _).2⟩
          · exact ⟨by rw [(h0 _).1]; exact hI.wf, (h0 _).2⟩
  exact hI.tame (tame_dup2 _ _ _ _ _) (hI.ok.dup2 hP hl fd o).1 h.1 (by rw [h.2]; exact hI.br)
theorem inv_exec (hI : Inv b z K) (hP : ask K.procs n = some P) (hl : P.ended = false) : Inv b z (execM K n P) :=
  hI.tame (tame_exec _ _ _) (hI.ok.exec hP hl) (letL_wf (execLs P.tab) (K := setR K n { P with tab := execTab P.tab }) hI.wf) (by
    have h : ∀ (l : List Int) (K : Ker), (letL K l).lastR = K.lastR := fun l => by
      induction l with
      | nil => intro K; rfl
      | cons x l ih => intro K; exact (ih (letM K x.toNat)).trans (letM_eq K x.toNat).2.2.2
    rw [show execM K n P = letL (setR K n { P with tab := execTab P.tab }) (execLs P.tab) from rfl, h]
    exact hI.br)
theorem inv_end (hI : Inv b z K) (hP : ask K.procs n = some P) (hl : P.ended = false) (st : Int) : Inv b z (endM K n P st) :=
  hI.tame (tame_end _ _ _ _) (hI.ok.over hP hl st) (drop_wf0 (closeL_wf n (Pp.upto P.tab 32) hI.wf) _) (by
    obtain ⟨_, _, _, _, h⟩ := hI.ok.closes hP hl 32 (Nat.le_refl _)
    show (closeL K n (Pp.upto P.tab 32)).lastR ≤ _
    rw [h]
    exact hI.br)
theorem inv_wait (hI : Inv b z K) (pid : Int) : Inv b z (waitM K n P pid).2.2.2 := by
  unfold waitM
  cases hc : (childM K n P pid).1 with
  | none => exact hI
  | some m =>
    obtain ⟨C, hC, he, _⟩ := child_ask hI.ok.num.or_ hc
    exact hI.tame (tame_cutR _ _) (hI.ok.wait hC he) hI.wf hI.br
theorem inv_fork (hI : Inv b z K) (hb : b ≤ 1200) (hP : ask K.procs n = some P) : Inv (b + 1) z (forkM K P).2.2 := by
  have h : WF (4 * b + 4) (forkM K P).2.2.fs ∧ (forkM K P).2.2.lastR ≤ K.lastR + 1 := by
    unfold forkM
    split
    · exact ⟨hI.wf.mono (by omega), by show K.lastR ≤ _; omega⟩
    · obtain ⟨h1, _, _, _, _, h2⟩ := incL_eq K (Pp.upto P.tab 32)
      refine ⟨?_, by show (incL K (Pp.upto P.tab 32)).lastR + 1 ≤ _; rw [h2]; exact Nat.le_refl _⟩
      exact (hold_wf hI.wf P.dir).mono (by omega)
  have h2 := hI.more (Nat.le_succ b) (Nat.le_refl z)
  exact h2.tame (tame_fork _ _) (hI.ok.fork hP (by have := hI.br; omega)) (by rw [show 4 * (b + 1) = 4 * b + 4 by omega]; exact h.1) (by have := h.2; have := hI.br; omega)
theorem inv_chdir (hI : Inv b z K) (hP : ask K.procs n = some P) (hl : P.ended = false) (s : ByteArray) : Inv (b + 1) z (chdirM K n P s).2 := by
  have h2 := hI.more (Nat.le_succ b) (Nat.le_refl z)
  unfold chdirM
  split
  · exact h2
  · split
    · exact h2
    · split
      · exact h2
      · refine h2.tame ((tame_F _ _).trans (tame_R _ _ _)) (OK.proc (OKd.fileF hI.ok _) (n := n) (P := P) hP hl rfl (fun _ => ⟨rfl, rfl⟩)) ?_ h2.br
        exact drop_wf0 ((hold_wf hI.wf _).mono (by omega)) _
theorem inv_pipe (hI : Inv b z K) (hb : b ≤ 1200) (hP : ask K.procs n = some P) (hl : P.ended = false) : Inv (b + 1) z (npipeM K n P).2.2.2 := by
  have hd := hI.bd
  have hx := hI.bx
  have h2 := hI.more (Nat.le_succ b) (Nat.le_refl z)
  have hok := hI.ok.npipe hP hl (by omega) (by omega)
  by_cases h0 : tfreeM P.tab < 2
  · have e : (npipeM K n P).2.2.2 = K := by unfold npipeM; rw [if_pos h0]
    rw [e]
    exact h2
  · obtain ⟨P5, hP5⟩ : ∃ P5 : Prc, ({ P with tab := (tputM P.tab ((K.lastD : Int) + 1) 0).2.2 } : Prc) = P5 := ⟨_, rfl⟩
    have e : (npipeM K n P).2.2.2 = instM (instM (putX K ⟨64, 1, 1, []⟩) n P (endD 3 (K.lastX + 1))) n P5 (endD 4 (K.lastX + 1)) := by unfold npipeM; rw [if_neg h0]; dsimp only; rw [hP5]
    rw [e] at hok ⊢
    refine ⟨hok, h2.wf, by show K.lastD + 1 + 1 ≤ _; omega, by show K.lastX + 1 ≤ _; omega, h2.br, h2.ty, h2.out, ?_⟩
    have hn1 : Nmb (putX K ⟨64, 1, 1, []⟩) := nmbPX hI.ok.num _ (by omega)
    have hn2 : Nmb (instM (putX K ⟨64, 1, 1, []⟩) n P (endD 3 (K.lastX + 1))) := nmbR (nmbPD hn1 _ (by show K.lastD < 90000; omega)) _ _
    refine dsc_inst (K := instM (putX K ⟨64, 1, 1, []⟩) n P (endD 3 (K.lastX + 1))) (dsc_inst (K := putX K ⟨64, 1, 1, []⟩) h2.dsc hn1 n P ⟨.inr (.inr (.inl rfl)), Nat.zero_le _, fun e => by cases e⟩) hn2 n P5 ⟨.inr (.inr (.inr (.inl rfl))), Nat.zero_le _, fun e => by cases e⟩
theorem inv_text (hI : Inv b z K) (hb : b ≤ 1200) (hP : ask K.procs n = some P) (hl : P.ended = false) (s : ByteArray) : Inv (b + 1) (z + s.size) (textM K n P s).2.2 := by
  have hd := hI.bd
  have h2 := hI.more (Nat.le_succ b) (Nat.le_add_right z s.size)
  have hok := hI.ok.text hP hl (by omega) s
  unfold textM at hok ⊢
  split
  · exact h2
  · rename_i h0
    rw [if_neg h0] at hok
    exact ⟨hok, h2.wf, by show K.lastD + 1 ≤ _; omega, h2.bx, h2.br, h2.ty, h2.out, dsc_inst h2.dsc hI.ok.num n P ⟨.inr (.inr (.inr (.inr rfl))), Nat.zero_le _, fun _ => ⟨Nat.zero_le _, Nat.le_add_left _ _⟩⟩⟩
theorem inv_read (hI : Inv b z K) (fd k : Int) : Inv (b + 1) z (readKM K P fd k).ker := by
  have h2 := hI.more (Nat.le_succ b) (Nat.le_refl z)
  unfold readKM
  split
  · exact h2
  · split
    · exact h2
    · split
      · exact h2
      · rename_i m hm hk _ D hD
        obtain ⟨d1, d2, d3⟩ := hI.dsc m D hD
        split
        · exact ⟨ok_typed h2.ok _, h2.wf, h2.bd, h2.bx, h2.br, by show (K.typed.extract _ _).size ≤ 4096; rw [ByteArray.size_extract]; have := hI.ty; omega, h2.out, h2.dsc⟩
        · split
          · rename_i h1 hk2
            have hl := read_len hI.wf D.n D.at_ k
            refine ⟨hI.ok.desc hD rfl rfl rfl rfl, h2.wf, h2.bd, h2.bx, h2.br, h2.ty, h2.out, dsc_put h2.dsc hD ⟨d1, ?_, fun e => ?_⟩⟩
            · show D.at_ + _ ≤ _
              have := Nat.mul_succ 70000 b
              omega
            · have e5 : D.kind = 5 := e
              omega
          · split
            · rename_i h1 hk2 hk5
              have hx : textEnd D k ≤ D.text.size := Nat.min_le_right _ _
              have := (d3 hk5).2
              exact ⟨hI.ok.desc hD rfl rfl rfl rfl, h2.wf, h2.bd, h2.bx, h2.br, h2.ty, h2.out, dsc_put h2.dsc hD ⟨d1, by show textEnd D k ≤ _; omega, fun _ => ⟨hx, this⟩⟩⟩
            · split
              · rename_i s hs
                obtain ⟨p1, p2, p3, p4, p5⟩ := hI.ok.pr D.n s hs
                refine h2.tame (tame_X _ _ _) (hI.ok.data hs ?_ ?_ ?_ ?_) h2.wf h2.br
                · split <;> rfl
                · split <;> rfl
                · split <;> rfl
                · split
                  · show (s.data.drop _).length ≤ 64
                    rw [List.length_drop]; omega
                  · exact p5
              · exact h2
theorem inv_write (hI : Inv b z K) (hb : b ≤ 1200) (hP : ask K.procs n = some P) (hl : P.ended = false) (fd : Int) (s : ByteArray) : Inv (b + 1) (z + s.size) (writeKM K n P fd s).ker := by
  have h2 := hI.more (Nat.le_succ b) (Nat.le_add_right z s.size)
  have ho := hI.out
  have hs9 : s.data.toList.length = s.size := by simp
  unfold writeKM
  split
  · exact h2
  · split
    · exact h2
    · rename_i m hm _ D hD
      obtain ⟨d1, d2, d3⟩ := hI.dsc m D hD
      split
      · split
        · exact ⟨ok_out1 h2.ok _, h2.wf, h2.bd, h2.bx, h2.br, h2.ty, by show (K.out1 ++ s.data.toList).length + K.out2.length ≤ z + s.size; rw [List.length_append]; omega, h2.dsc⟩
        · exact ⟨ok_out2 h2.ok _, h2.wf, h2.bd, h2.bx, h2.br, h2.ty, by show K.out1.length + (K.out2 ++ s.data.toList).length ≤ z + s.size; rw [List.length_append]; omega, h2.dsc⟩
      · split
        · rename_i h1 hk2
          have hw := (write_wf hI.wf (D.n : Int) (wrAt K D : Int) s)
          show Inv (b + 1) (z + s.size) (writeFileM K m D s).2.2
          unfold writeFileM
          have hf : Inv (b + 1) (z + s.size) (setF K (WriteM K.fs D.n (wrAt K D) s).2.2) := h2.tame (tame_F _ _) (OKd.fileF hI.ok _) (hw.mono (by omega)) h2.br
          split
          · have hle := writeM_le K.fs (D.n : Int) (wrAt K D : Int) s
            have hat : wrAt K D ≤ 70000 * b + z + 70000 := by
              unfold wrAt
              split
              · have := size_le hI.wf (by omega) (D.n : Int); omega
              · omega
            refine ⟨OK.desc (K := setF K (WriteM K.fs D.n (wrAt K D) s).2.2) hf.ok hD rfl rfl rfl rfl, hf.wf, hf.bd, hf.bx, hf.br, hf.ty, hf.out, dsc_put (K := setF K (WriteM K.fs D.n (wrAt K D) s).2.2) hf.dsc hD ⟨d1, ?_, fun e => ?_⟩⟩
            · show wrAt K D + _ ≤ _
              have := Nat.mul_succ 70000 b
              omega
            · have e5 : D.kind = 5 := e
              omega
          · exact hf
        · split
          · rename_i zz hs
            split
            · split
              · exact h2
              · exact (inv_end h2 hP hl 141)
            · obtain ⟨p1, p2, p3, p4, p5⟩ := hI.ok.pr D.n zz hs
              refine h2.tame (tame_X _ _ _) (hI.ok.data hs rfl rfl rfl ?_) h2.wf h2.br
              show (zz.data ++ s.data.toList.take (zz.wrote s.data.toList)).length ≤ 64
              rw [List.length_append, List.length_take]
              have : zz.wrote s.data.toList ≤ 64 - zz.data.length := by
                unfold Pp.St.wrote
                split
                · exact Nat.zero_le _
                · rw [p4]; exact Nat.min_le_right _ _
              omega
          · exact h2
theorem inv_open (hI : Inv b z K) (hb : b ≤ 1200) (hP : ask K.procs n = some P) (hl : P.ended = false) (s : ByteArray) (flags mode : Int) : Inv (b + 1) z (openM K n P s flags mode).2.2 ∧ WF (4 * b + 2) (findM K P s flags mode).2.2 ∧ WF (4 * b + 2) (cutF (findM K P s flags mode).2.2 (findM K P s flags mode).1 flags) := by
  have h2 := hI.more (Nat.le_succ b) (Nat.le_refl z)
  have hw1 : WF (4 * b + 1) (findM K P s flags mode).2.2 := by
    unfold findM
    split
    · exact create_wf hI.wf _ _ _
    · split <;> exact hI.wf.mono (by omega)
  have hw2 : WF (4 * b + 2) (cutF (findM K P s flags mode).2.2 (findM K P s flags mode).1 flags) := by
    unfold cutF
    split
    · exact trunc_wf hw1 _ _
    · exact hw1.mono (by omega)
  refine ⟨?_, hw1.mono (by omega), hw2⟩
  unfold openM
  split
  · exact h2
  · split
    · exact h2
    · rename_i h0
      split
      · exact inv_setF hI (hw1.mono (by omega))
      · have hd := hI.bd
        obtain ⟨f3, hf3⟩ : ∃ f3, (HoldM (cutF (findM K P s flags mode).2.2 (findM K P s flags mode).1 flags) (findM K P s flags mode).1).2 = f3 := ⟨_, rfl⟩
        have hw3 : WF (4 * b + 4) f3 := by rw [← hf3]; exact (hold_wf hw2 _).mono (by omega)
        rw [hf3]
        have hF := inv_setF hI hw3
        have hok := OKd.inst (K := setF K f3) hF.ok hP hl h0 ⟨2, (findM K P s flags mode).1.toNat, 0, 0, flags, none, ⟨#[]⟩⟩ (by show K.lastD < 90000; omega) (fun e => by dsimp only at e; omega) (fun _ => rfl) (er' := z0) (et' := z0) (fun x => by unfold isEnd; rw [if_neg (by dsimp only; omega)]) (fun x => by unfold isEnd; rw [if_neg (by dsimp only; omega)])
        exact ⟨hok, hF.wf, by show K.lastD + 1 ≤ _; omega, hF.bx, hF.br, hF.ty, hF.out, dsc_inst hF.dsc hF.ok.num n P ⟨.inr (.inl rfl), Nat.zero_le _, fun e => by cases e⟩⟩
end
end Go.Proofs.YtmilagppbepnbaaGreat.Kn
/- The kernel's gate: onDescriptors, onProcess, answer, Call, whatever the inner call does. Condition: the kernel lies as stated. -/
namespace Go.Proofs.YtmilagppbepnbaaGreat.Kn
open Go.RowKit Go.PlainAid
set_option linter.unusedVariables false
set_option linter.unusedSimpArgs false
attribute [local go_sem] Oper.semAt_some
theorem put10 {W : World} {g : Nat} {t : TypeId} (h : Blk W g t #[.int .i64 0, .int .i64 0, .string ⟨#[]⟩, .slice none 0 0, .int .i64 0, .int .i64 0, .int .i64 0, .int .i64 0, .int .i64 0, .int .i64 0]) (v0 v1 v2 v3 v4 v5 v6 v7 v8 v9 : Value) :
    Blk ((((((((((W.setCell ⟨g, 0, none⟩ v0).setCell ⟨g, 1, none⟩ v1).setCell ⟨g, 2, none⟩ v2).setCell ⟨g, 3, none⟩ v3).setCell ⟨g, 4, none⟩ v4).setCell ⟨g, 5, none⟩ v5).setCell ⟨g, 6, none⟩ v6).setCell ⟨g, 7, none⟩ v7).setCell ⟨g, 8, none⟩ v8).setCell ⟨g, 9, none⟩ v9) g t #[v0, v1, v2, v3, v4, v5, v6, v7, v8, v9] := by
  have h0 : Blk (W.setCell ⟨g, 0, none⟩ v0) g t #[v0, .int .i64 0, .string ⟨#[]⟩, .slice none 0 0, .int .i64 0, .int .i64 0, .int .i64 0, .int .i64 0, .int .i64 0, .int .i64 0] := h.set_ 0 v0
  have h1 : Blk ((W.setCell ⟨g, 0, none⟩ v0).setCell ⟨g, 1, none⟩ v1) g t #[v0, v1, .string ⟨#[]⟩, .slice none 0 0, .int .i64 0, .int .i64 0, .int .i64 0, .int .i64 0, .int .i64 0, .int .i64 0] := h0.set_ 1 v1
  have h2 : Blk (((W.setCell ⟨g, 0, none⟩ v0).setCell ⟨g, 1, none⟩ v1).setCell ⟨g, 2, none⟩ v2) g t #[v0, v1, v2, .slice none 0 0, .int .i64 0, .int .i64 0, .int .i64 0, .int .i64 0, .int .i64 0, .int .i64 0] := h1.set_ 2 v2
  have h3 : Blk ((((W.setCell ⟨g, 0, none⟩ v0).setCell ⟨g, 1, none⟩ v1).setCell ⟨g, 2, none⟩ v2).setCell ⟨g, 3, none⟩ v3) g t #[v0, v1, v2, v3, .int .i64 0, .int .i64 0, .int .i64 0, .int .i64 0, .int .i64 0, .int .i64 0] := h2.set_ 3 v3
  have h4 : Blk (((((W.setCell ⟨g, 0, none⟩ v0).setCell ⟨g, 1, none⟩ v1).setCell ⟨g, 2, none⟩ v2).setCell ⟨g, 3, none⟩ v3).setCell ⟨g, 4, none⟩ v4) g t #[v0, v1, v2, v3, v4, .int .i64 0, .int .i64 0, .int .i64 0, .int .i64 0, .int .i64 0] := h3.set_ 4 v4
  have h5 : Blk ((((((W.setCell ⟨g, 0, none⟩ v0).setCell ⟨g, 1, none⟩ v1).setCell ⟨g, 2, none⟩ v2).setCell ⟨g, 3, none⟩ v3).setCell ⟨g, 4, none⟩ v4).setCell ⟨g, 5, none⟩ v5) g t #[v0, v1, v2, v3, v4, v5, .int .i64 0, .int .i64 0, .int .i64 0, .int .i64 0] := h4.set_ 5 v5
  have h6 : Blk (((((((W.setCell ⟨g, 0, none⟩ v0).setCell ⟨g, 1, none⟩ v1).setCell ⟨g, 2, none⟩ v2).setCell ⟨g, 3, none⟩ v3).setCell ⟨g, 4, none⟩ v4).setCell ⟨g, 5, none⟩ v5).setCell ⟨g, 6, none⟩ v6) g t #[v0, v1, v2, v3, v4, v5, v6, .int .i64 0, .int .i64 0, .int .i64 0] := h5.set_ 6 v6
  have h7 : Blk ((((((((W.setCell ⟨g, 0, none⟩ v0).setCell ⟨g, 1, none⟩ v1).setCell ⟨g, 2, none⟩ v2).setCell ⟨g, 3, none⟩ v3).setCell ⟨g, 4, none⟩ v4).setCell ⟨g, 5, none⟩ v5).setCell ⟨g, 6, none⟩ v6).setCell ⟨g, 7, none⟩ v7) g t #[v0, v1, v2, v3, v4, v5, v6, v7, .int .i64 0, .int .i64 0] := h6.set_ 7 v7
  have h8 : Blk (((((((((W.setCell ⟨g, 0, none⟩ v0).setCell ⟨g, 1, none⟩ v1).setCell ⟨g, 2, none⟩ v2).setCell ⟨g, 3, none⟩ v3).setCell ⟨g, 4, none⟩ v4).setCell ⟨g, 5, none⟩ v5).setCell ⟨g, 6, none⟩ v6).setCell ⟨g, 7, none⟩ v7).setCell ⟨g, 8, none⟩ v8) g t #[v0, v1, v2, v3, v4, v5, v6, v7, v8, .int .i64 0] := h7.set_ 8 v8
  have h9 : Blk ((((((((((W.setCell ⟨g, 0, none⟩ v0).setCell ⟨g, 1, none⟩ v1).setCell ⟨g, 2, none⟩ v2).setCell ⟨g, 3, none⟩ v3).setCell ⟨g, 4, none⟩ v4).setCell ⟨g, 5, none⟩ v5).setCell ⟨g, 6, none⟩ v6).setCell ⟨g, 7, none⟩ v7).setCell ⟨g, 8, none⟩ v8).setCell ⟨g, 9, none⟩ v9) g t #[v0, v1, v2, v3, v4, v5, v6, v7, v8, v9] := h8.set_ 9 v9
  exact h9
section
variable {w w' w3 w4 : World} {B : Ix → Nat → Prop} {q : Nat} {K K' : Ker} {M : Mp} {c : Nat}
/-- What lies above the kernel's blocks may turn. -/
theorem kp_end (h : KerIs w B q K M) {W : World} (hb : Below w.heap.size w W) (hk : KP (AllX B) W K M w3 q K') (h4 : Frm (fun g => w.heap.size ≤ g ∧ g < W.heap.size) w3 w4) : KP (AllX B) w K M w4 q K' := by
  obtain ⟨B', M', k1, k2, k3, k4, k5, k6, k7⟩ := hk
  refine ⟨B', M', k1.frm h4 (fun i g hg ⟨h1, h2⟩ => ?_), k2, k3, k4, k5, fun g hg => (k6 g hg).imp_right (fun h' => Nat.le_trans hb.size h'), ?_⟩
  · rcases k6 g ⟨i, hg⟩ with ⟨j, hj⟩ | h'
    · have := h.lt j g hj; omega
    · omega
  · exact ((Frm.of_below hb).trans (O := AllX B) (O1 := AllX B) (fun g hg => .inl hg) k7).trans (fun g ⟨h1, _⟩ => .inr h1) h4
theorem kp_keep (h : KerIs w B q K M) {W : World} (hk : KP (AllX B) W K M w3 q K') {g : Nat} (h1 : w.heap.size ≤ g) (h2 : g < W.heap.size) : w3.heap[g]? = W.heap[g]? := by
  obtain ⟨B', M', k1, k2, k3, k4, k5, k6, k7⟩ := hk
  exact k7.block g h2 (fun ⟨j, hj⟩ => by have := h.lt j g hj; omega)
theorem frm10 {O : Nat → Prop} {W0 W : World} {g : Nat} (h : Frm O W0 W) (hg : O g ∨ W0.heap.size ≤ g) (v0 v1 v2 v3 v4 v5 v6 v7 v8 v9 : Value) :
    Frm O W0 ((((((((((W.setCell ⟨g, 0, none⟩ v0).setCell ⟨g, 1, none⟩ v1).setCell ⟨g, 2, none⟩ v2).setCell ⟨g, 3, none⟩ v3).setCell ⟨g, 4, none⟩ v4).setCell ⟨g, 5, none⟩ v5).setCell ⟨g, 6, none⟩ v6).setCell ⟨g, 7, none⟩ v7).setCell ⟨g, 8, none⟩ v8).setCell ⟨g, 9, none⟩ v9) :=
  (((((((((h.setCell (a := ⟨g, 0, none⟩) hg v0).setCell (a := ⟨g, 1, none⟩) hg v1).setCell (a := ⟨g, 2, none⟩) hg v2).setCell (a := ⟨g, 3, none⟩) hg v3).setCell (a := ⟨g, 4, none⟩) hg v4).setCell (a := ⟨g, 5, none⟩) hg v5).setCell (a := ⟨g, 6, none⟩) hg v6).setCell (a := ⟨g, 7, none⟩) hg v7).setCell (a := ⟨g, 8, none⟩) hg v8).setCell (a := ⟨g, 9, none⟩) hg v9
set_option maxRecDepth 100000 in
set_option maxHeartbeats 4000000 in
theorem on_read (h : KerIs w B q K M) {pb : Nat} (a b : Int) (s t : ByteArray) (pa : Option Addr) (pn pc : Nat) (st : ByteArray) (er : Int)
    (hin : ∀ W, Below w.heap.size w W → Calls Tryz.prog 137 #[.pointer (some ⟨q, 0, none⟩), .pointer (some ⟨pb, 0, none⟩), .int .i64 a, .int .i64 b] W fun e w' => e = .returned (.tuple #[.string st, .int .i64 er]) ∧ KP (AllX B) W K M w' q K') :
    Calls Tryz.prog 89 #[.pointer (some ⟨q, 0, none⟩), .pointer (some ⟨pb, 0, none⟩), .agg #[.int .i64 1, .int .i64 a, .int .i64 b, .string s, .string t, .slice pa pn pc]] w fun e w' => e = .returned (.tuple #[.agg #[.int .i64 0, .int .i64 0, .string st, .slice none 0 0, .int .i64 0, .int .i64 0, .int .i64 0, .int .i64 0, .int .i64 0, .int .i64 0], .int .i64 er]) ∧ KP (AllX B) w K M w' q K' := by
  have hinH := Lib.hid hin
  have hH := Lib.hid h
  clear h hin
  go_enter Tryz.func89, Tryz.ntmps89
  go_upto_region 5 with fail
  obtain ⟨W0, hW0⟩ : ∃ W, ((w.alloc (.cells #[.int .i64 1, .int .i64 a, .int .i64 b, .string s, .string t, .slice pa pn pc] 34)).alloc (.cells #[.int .i64 0, .int .i64 0, .string ⟨#[]⟩, .slice none 0 0, .int .i64 0, .int .i64 0, .int .i64 0, .int .i64 0, .int .i64 0, .int .i64 0] 44)).alloc (.cells #[.int .i64 0, .int .i64 0, .string ⟨#[]⟩, .slice none 0 0, .int .i64 0, .int .i64 0, .int .i64 0, .int .i64 0, .int .i64 0, .int .i64 0] 44) = W := ⟨_, rfl⟩
  have hb0 : Below w.heap.size w W0 := by rw [← hW0]; exact (((Below.refl _ w).alloc (Nat.le_refl _) _).alloc (by simp) _).alloc (by simp; omega) _
  have hC0 : Blk W0 w.heap.size 34 #[.int .i64 1, .int .i64 a, .int .i64 b, .string s, .string t, .slice pa pn pc] := by rw [← hW0]; exact ((Blk.new w _ _).alloc _).alloc _
  have hR0 : Blk W0 (w.heap.size + 1) 44 #[.int .i64 0, .int .i64 0, .string ⟨#[]⟩, .slice none 0 0, .int .i64 0, .int .i64 0, .int .i64 0, .int .i64 0, .int .i64 0, .int .i64 0] := by
    have h := (Blk.new (w.alloc (.cells #[.int .i64 1, .int .i64 a, .int .i64 b, .string s, .string t, .slice pa pn pc] 34)) 44 #[.int .i64 0, .int .i64 0, .string ⟨#[]⟩, .slice none 0 0, .int .i64 0, .int .i64 0, .int .i64 0, .int .i64 0, .int .i64 0, .int .i64 0]).alloc (.cells #[.int .i64 0, .int .i64 0, .string ⟨#[]⟩, .slice none 0 0, .int .i64 0, .int .i64 0, .int .i64 0, .int .i64 0, .int .i64 0, .int .i64 0] 44)
    rw [World.size_alloc, hW0] at h
    exact h
  have hr0 : Blk W0 (w.heap.size + 2) 44 #[.int .i64 0, .int .i64 0, .string ⟨#[]⟩, .slice none 0 0, .int .i64 0, .int .i64 0, .int .i64 0, .int .i64 0, .int .i64 0, .int .i64 0] := by
    have h := Blk.new ((w.alloc (.cells #[.int .i64 1, .int .i64 a, .int .i64 b, .string s, .string t, .slice pa pn pc] 34)).alloc (.cells #[.int .i64 0, .int .i64 0, .string ⟨#[]⟩, .slice none 0 0, .int .i64 0, .int .i64 0, .int .i64 0, .int .i64 0, .int .i64 0, .int .i64 0] 44)) 44 #[.int .i64 0, .int .i64 0, .string ⟨#[]⟩, .slice none 0 0, .int .i64 0, .int .i64 0, .int .i64 0, .int .i64 0, .int .i64 0, .int .i64 0]
    rw [World.size_alloc, World.size_alloc, hW0] at h
    exact h
  have a1 : W0.cell? ⟨w.heap.size, 1, none⟩ = some (.int .i64 a) := hC0.cell 1
  have a2 : W0.cell? ⟨w.heap.size, 2, none⟩ = some (.int .i64 b) := hC0.cell 2
  have a3 : W0.cell? ⟨w.heap.size, 3, none⟩ = some (.string s) := hC0.cell 3
  have hb0H := Lib.hid hb0
  have hR0H := Lib.hid hR0
  have hr0H := Lib.hid hr0
  rw [hW0]
  clear hb0 hC0 hR0 hr0 hW0
  go_wp2_with (first
    | (go_at_call 137; refine (hinH.out W0 hb0H.out).mono ?_; rintro e w3 ⟨rfl, hk3⟩
       have hR3 := hR0H.out.keep (kp_keep hH.out hk3 (by omega) hR0H.out.lt)
       have hr3 := hr0H.out.keep (kp_keep hH.out hk3 (by omega) hr0H.out.lt)
       have rc0 : w3.cell? ⟨w.heap.size + 1, 0, none⟩ = some (.int .i64 0) := hR3.cell 0
       have rf0 : w3.frozen? ⟨w.heap.size + 1, 0, none⟩ = false := hR3.frozen 0
       have rc1 : w3.cell? ⟨w.heap.size + 1, 1, none⟩ = some (.int .i64 0) := hR3.cell 1
       have rf1 : w3.frozen? ⟨w.heap.size + 1, 1, none⟩ = false := hR3.frozen 1
       have rc2 : w3.cell? ⟨w.heap.size + 1, 2, none⟩ = some (.string ⟨#[]⟩) := hR3.cell 2
       have rf2 : w3.frozen? ⟨w.heap.size + 1, 2, none⟩ = false := hR3.frozen 2
       have rc3 : w3.cell? ⟨w.heap.size + 1, 3, none⟩ = some (.slice none 0 0) := hR3.cell 3
       have rf3 : w3.frozen? ⟨w.heap.size + 1, 3, none⟩ = false := hR3.frozen 3
       have rc4 : w3.cell? ⟨w.heap.size + 1, 4, none⟩ = some (.int .i64 0) := hR3.cell 4
       have rf4 : w3.frozen? ⟨w.heap.size + 1, 4, none⟩ = false := hR3.frozen 4
       have rc5 : w3.cell? ⟨w.heap.size + 1, 5, none⟩ = some (.int .i64 0) := hR3.cell 5
       have rf5 : w3.frozen? ⟨w.heap.size + 1, 5, none⟩ = false := hR3.frozen 5
       have rc6 : w3.cell? ⟨w.heap.size + 1, 6, none⟩ = some (.int .i64 0) := hR3.cell 6
       have rf6 : w3.frozen? ⟨w.heap.size + 1, 6, none⟩ = false := hR3.frozen 6
       have rc7 : w3.cell? ⟨w.heap.size + 1, 7, none⟩ = some (.int .i64 0) := hR3.cell 7
       have rf7 : w3.frozen? ⟨w.heap.size + 1, 7, none⟩ = false := hR3.frozen 7
       have rc8 : w3.cell? ⟨w.heap.size + 1, 8, none⟩ = some (.int .i64 0) := hR3.cell 8
       have rf8 : w3.frozen? ⟨w.heap.size + 1, 8, none⟩ = false := hR3.frozen 8
       have rc9 : w3.cell? ⟨w.heap.size + 1, 9, none⟩ = some (.int .i64 0) := hR3.cell 9
       have rf9 : w3.frozen? ⟨w.heap.size + 1, 9, none⟩ = false := hR3.frozen 9
       have uc0 : w3.cell? ⟨w.heap.size + 2, 0, none⟩ = some (.int .i64 0) := hr3.cell 0
       have uf0 : w3.frozen? ⟨w.heap.size + 2, 0, none⟩ = false := hr3.frozen 0
       have uc1 : w3.cell? ⟨w.heap.size + 2, 1, none⟩ = some (.int .i64 0) := hr3.cell 1
       have uf1 : w3.frozen? ⟨w.heap.size + 2, 1, none⟩ = false := hr3.frozen 1
       have uc2 : w3.cell? ⟨w.heap.size + 2, 2, none⟩ = some (.string ⟨#[]⟩) := hr3.cell 2
       have uf2 : w3.frozen? ⟨w.heap.size + 2, 2, none⟩ = false := hr3.frozen 2
       have uc3 : w3.cell? ⟨w.heap.size + 2, 3, none⟩ = some (.slice none 0 0) := hr3.cell 3
       have uf3 : w3.frozen? ⟨w.heap.size + 2, 3, none⟩ = false := hr3.frozen 3
       have uc4 : w3.cell? ⟨w.heap.size + 2, 4, none⟩ = some (.int .i64 0) := hr3.cell 4
       have uf4 : w3.frozen? ⟨w.heap.size + 2, 4, none⟩ = false := hr3.frozen 4
       have uc5 : w3.cell? ⟨w.heap.size + 2, 5, none⟩ = some (.int .i64 0) := hr3.cell 5
       have uf5 : w3.frozen? ⟨w.heap.size + 2, 5, none⟩ = false := hr3.frozen 5
       have uc6 : w3.cell? ⟨w.heap.size + 2, 6, none⟩ = some (.int .i64 0) := hr3.cell 6
       have uf6 : w3.frozen? ⟨w.heap.size + 2, 6, none⟩ = false := hr3.frozen 6
       have uc7 : w3.cell? ⟨w.heap.size + 2, 7, none⟩ = some (.int .i64 0) := hr3.cell 7
       have uf7 : w3.frozen? ⟨w.heap.size + 2, 7, none⟩ = false := hr3.frozen 7
       have uc8 : w3.cell? ⟨w.heap.size + 2, 8, none⟩ = some (.int .i64 0) := hr3.cell 8
       have uf8 : w3.frozen? ⟨w.heap.size + 2, 8, none⟩ = false := hr3.frozen 8
       have uc9 : w3.cell? ⟨w.heap.size + 2, 9, none⟩ = some (.int .i64 0) := hr3.cell 9
       have uf9 : w3.frozen? ⟨w.heap.size + 2, 9, none⟩ = false := hr3.frozen 9
       have hk3H := Lib.hid hk3; have hR3H := Lib.hid hR3; clear hk3 hR3 hr3))
  (try simp only [Exit.inBlock, Exit.then])
  refine bodyPost_ret (results_cell_row2 rfl _ _ (w.heap.size + 1) 44 _ _ rfl (put10 (hR3H.out.far (p := ⟨w.heap.size + 2, 2, none⟩) (by show w.heap.size + 1 ≠ w.heap.size + 2; omega) _) (.int .i64 0) (.int .i64 0) (.string st) (.slice none 0 0) (.int .i64 0) (.int .i64 0) (.int .i64 0) (.int .i64 0) (.int .i64 0) (.int .i64 0)) Tryz.underlying44 rfl (by kernel_rfl)) rfl ?_
  exact ⟨rfl, kp_end hH.out hb0H.out hk3H.out (frm10 ((Frm.refl _ _).setCell (a := ⟨w.heap.size + 2, 2, none⟩) (.inl (by show w.heap.size ≤ w.heap.size + 2 ∧ w.heap.size + 2 < _; have := hr0H.out.lt; omega)) _) (.inl (by show w.heap.size ≤ w.heap.size + 1 ∧ w.heap.size + 1 < _; have := hR0H.out.lt; omega)) _ _ _ _ _ _ _ _ _ _)⟩
set_option maxRecDepth 100000 in
set_option maxHeartbeats 4000000 in
theorem on_write (h : KerIs w B q K M) {pb : Nat} (a b : Int) (s t : ByteArray) (pa : Option Addr) (pn pc : Nat) (n1 er : Int)
    (hin : ∀ W, Below w.heap.size w W → Calls Tryz.prog 138 #[.pointer (some ⟨q, 0, none⟩), .pointer (some ⟨pb, 0, none⟩), .int .i64 a, .string s] W fun e w' => e = .returned (.tuple #[.int .i64 n1, .int .i64 er]) ∧ KP (AllX B) W K M w' q K') :
    Calls Tryz.prog 89 #[.pointer (some ⟨q, 0, none⟩), .pointer (some ⟨pb, 0, none⟩), .agg #[.int .i64 2, .int .i64 a, .int .i64 b, .string s, .string t, .slice pa pn pc]] w fun e w' => e = .returned (.tuple #[.agg #[.int .i64 n1, .int .i64 0, .string ⟨#[]⟩, .slice none 0 0, .int .i64 0, .int .i64 0, .int .i64 0, .int .i64 0, .int .i64 0, .int .i64 0], .int .i64 er]) ∧ KP (AllX B) w K M w' q K' := by
  have hinH := Lib.hid hin
  have hH := Lib.hid h
  clear h hin
  go_enter Tryz.func89, Tryz.ntmps89
  go_upto_region 7 with fail
  obtain ⟨W0, hW0⟩ : ∃ W, ((w.alloc (.cells #[.int .i64 2, .int .i64 a, .int .i64 b, .string s, .string t, .slice pa pn pc] 34)).alloc (.cells #[.int .i64 0, .int .i64 0, .string ⟨#[]⟩, .slice none 0 0, .int .i64 0, .int .i64 0, .int .i64 0, .int .i64 0, .int .i64 0, .int .i64 0] 44)).alloc (.cells #[.int .i64 0, .int .i64 0, .string ⟨#[]⟩, .slice none 0 0, .int .i64 0, .int .i64 0, .int .i64 0, .int .i64 0, .int .i64 0, .int .i64 0] 44) = W := ⟨_, rfl⟩
  have hb0 : Below w.heap.size w W0 := by rw [← hW0]; exact (((Below.refl _ w).alloc (Nat.le_refl _) _).alloc (by simp) _).alloc (by simp; omega) _
  have hC0 : Blk W0 w.heap.size 34 #[.int .i64 2, .int .i64 a, .int .i64 b, .string s, .string t, .slice pa pn pc] := by rw [← hW0]; exact ((Blk.new w _ _).alloc _).alloc _
  have hR0 : Blk W0 (w.heap.size + 1) 44 #[.int .i64 0, .int .i64 0, .string ⟨#[]⟩, .slice none 0 0, .int .i64 0, .int .i64 0, .int .i64 0, .int .i64 0, .int .i64 0, .int .i64 0] := by
    have h := (Blk.new (w.alloc (.cells #[.int .i64 2, .int .i64 a, .int .i64 b, .string s, .string t, .slice pa pn pc] 34)) 44 #[.int .i64 0, .int .i64 0, .string ⟨#[]⟩, .slice none 0 0, .int .i64 0, .int .i64 0, .int .i64 0, .int .i64 0, .int .i64 0, .int .i64 0]).alloc (.cells #[.int .i64 0, .int .i64 0, .string ⟨#[]⟩, .slice none 0 0, .int .i64 0, .int .i64 0, .int .i64 0, .int .i64 0, .int .i64 0, .int .i64 0] 44)
    rw [World.size_alloc, hW0] at h
    exact h
  have hr0 : Blk W0 (w.heap.size + 2) 44 #[.int .i64 0, .int .i64 0, .string ⟨#[]⟩, .slice none 0 0, .int .i64 0, .int .i64 0, .int .i64 0, .int .i64 0, .int .i64 0, .int .i64 0] := by
    have h := Blk.new ((w.alloc (.cells #[.int .i64 2, .int .i64 a, .int .i64 b, .string s, .string t, .slice pa pn pc] 34)).alloc (.cells #[.int .i64 0, .int .i64 0, .string ⟨#[]⟩, .slice none 0 0, .int .i64 0, .int .i64 0, .int .i64 0, .int .i64 0, .int .i64 0, .int .i64 0] 44)) 44 #[.int .i64 0, .int .i64 0, .string ⟨#[]⟩, .slice none 0 0, .int .i64 0, .int .i64 0, .int .i64 0, .int .i64 0, .int .i64 0, .int .i64 0]
    rw [World.size_alloc, World.size_alloc, hW0] at h
    exact h
  have a1 : W0.cell? ⟨w.heap.size, 1, none⟩ = some (.int .i64 a) := hC0.cell 1
  have a2 : W0.cell? ⟨w.heap.size, 2, none⟩ = some (.int .i64 b) := hC0.cell 2
  have a3 : W0.cell? ⟨w.heap.size, 3, none⟩ = some (.string s) := hC0.cell 3
  have hb0H := Lib.hid hb0
  have hR0H := Lib.hid hR0
  have hr0H := Lib.hid hr0
  rw [hW0]
  clear hb0 hC0 hR0 hr0 hW0
  go_wp2_with (first
    | (go_at_call 138; refine (hinH.out W0 hb0H.out).mono ?_; rintro e w3 ⟨rfl, hk3⟩
       have hR3 := hR0H.out.keep (kp_keep hH.out hk3 (by omega) hR0H.out.lt)
       have hr3 := hr0H.out.keep (kp_keep hH.out hk3 (by omega) hr0H.out.lt)
       have rc0 : w3.cell? ⟨w.heap.size + 1, 0, none⟩ = some (.int .i64 0) := hR3.cell 0
       have rf0 : w3.frozen? ⟨w.heap.size + 1, 0, none⟩ = false := hR3.frozen 0
       have rc1 : w3.cell? ⟨w.heap.size + 1, 1, none⟩ = some (.int .i64 0) := hR3.cell 1
       have rf1 : w3.frozen? ⟨w.heap.size + 1, 1, none⟩ = false := hR3.frozen 1
       have rc2 : w3.cell? ⟨w.heap.size + 1, 2, none⟩ = some (.string ⟨#[]⟩) := hR3.cell 2
       have rf2 : w3.frozen? ⟨w.heap.size + 1, 2, none⟩ = false := hR3.frozen 2
       have rc3 : w3.cell? ⟨w.heap.size + 1, 3, none⟩ = some (.slice none 0 0) := hR3.cell 3
       have rf3 : w3.frozen? ⟨w.heap.size + 1, 3, none⟩ = false := hR3.frozen 3
       have rc4 : w3.cell? ⟨w.heap.size + 1, 4, none⟩ = some (.int .i64 0) := hR3.cell 4
       have rf4 : w3.frozen? ⟨w.heap.size + 1, 4, none⟩ = false := hR3.frozen 4
       have rc5 : w3.cell? ⟨w.heap.size + 1, 5, none⟩ = some (.int .i64 0) := hR3.cell 5
       have rf5 : w3.frozen? ⟨w.heap.size + 1, 5, none⟩ = false := hR3.frozen 5
       have rc6 : w3.cell? ⟨w.heap.size + 1, 6, none⟩ = some (.int .i64 0) := hR3.cell 6
       have rf6 : w3.frozen? ⟨w.heap.size + 1, 6, none⟩ = false := hR3.frozen 6
       have rc7 : w3.cell? ⟨w.heap.size + 1, 7, none⟩ = some (.int .i64 0) := hR3.cell 7
       have rf7 : w3.frozen? ⟨w.heap.size + 1, 7, none⟩ = false := hR3.frozen 7
       have rc8 : w3.cell? ⟨w.heap.size + 1, 8, none⟩ = some (.int .i64 0) := hR3.cell 8
       have rf8 : w3.frozen? ⟨w.heap.size + 1, 8, none⟩ = false := hR3.frozen 8
       have rc9 : w3.cell? ⟨w.heap.size + 1, 9, none⟩ = some (.int .i64 0) := hR3.cell 9
       have rf9 : w3.frozen? ⟨w.heap.size + 1, 9, none⟩ = false := hR3.frozen 9
       have uc0 : w3.cell? ⟨w.heap.size + 2, 0, none⟩ = some (.int .i64 0) := hr3.cell 0
       have uf0 : w3.frozen? ⟨w.heap.size + 2, 0, none⟩ = false := hr3.frozen 0
       have uc1 : w3.cell? ⟨w.heap.size + 2, 1, none⟩ = some (.int .i64 0) := hr3.cell 1
       have uf1 : w3.frozen? ⟨w.heap.size + 2, 1, none⟩ = false := hr3.frozen 1
       have uc2 : w3.cell? ⟨w.heap.size + 2, 2, none⟩ = some (.string ⟨#[]⟩) := hr3.cell 2
       have uf2 : w3.frozen? ⟨w.heap.size + 2, 2, none⟩ = false := hr3.frozen 2
       have uc3 : w3.cell? ⟨w.heap.size + 2, 3, none⟩ = some (.slice none 0 0) := hr3.cell 3
       have uf3 : w3.frozen? ⟨w.heap.size + 2, 3, none⟩ = false := hr3.frozen 3
       have uc4 : w3.cell? ⟨w.heap.size + 2, 4, none⟩ = some (.int .i64 0) := hr3.cell 4
       have uf4 : w3.frozen? ⟨w.heap.size + 2, 4, none⟩ = false := hr3.frozen 4
       have uc5 : w3.cell? ⟨w.heap.size + 2, 5, none⟩ = some (.int .i64 0) := hr3.cell 5
       have uf5 : w3.frozen? ⟨w.heap.size + 2, 5, none⟩ = false := hr3.frozen 5
       have uc6 : w3.cell? ⟨w.heap.size + 2, 6, none⟩ = some (.int .i64 0) := hr3.cell 6
       have uf6 : w3.frozen? ⟨w.heap.size + 2, 6, none⟩ = false := hr3.frozen 6
       have uc7 : w3.cell? ⟨w.heap.size + 2, 7, none⟩ = some (.int .i64 0) := hr3.cell 7
       have uf7 : w3.frozen? ⟨w.heap.size + 2, 7, none⟩ = false := hr3.frozen 7
       have uc8 : w3.cell? ⟨w.heap.size + 2, 8, none⟩ = some (.int .i64 0) := hr3.cell 8
       have uf8 : w3.frozen? ⟨w.heap.size + 2, 8, none⟩ = false := hr3.frozen 8
       have uc9 : w3.cell? ⟨w.heap.size + 2, 9, none⟩ = some (.int .i64 0) := hr3.cell 9
       have uf9 : w3.frozen? ⟨w.heap.size + 2, 9, none⟩ = false := hr3.frozen 9
       have hk3H := Lib.hid hk3; have hR3H := Lib.hid hR3; clear hk3 hR3 hr3))
  (try simp only [Exit.inBlock, Exit.then])
  refine bodyPost_ret (results_cell_row2 rfl _ _ (w.heap.size + 1) 44 _ _ rfl (put10 (hR3H.out.far (p := ⟨w.heap.size + 2, 0, none⟩) (by show w.heap.size + 1 ≠ w.heap.size + 2; omega) _) (.int .i64 n1) (.int .i64 0) (.string ⟨#[]⟩) (.slice none 0 0) (.int .i64 0) (.int .i64 0) (.int .i64 0) (.int .i64 0) (.int .i64 0) (.int .i64 0)) Tryz.underlying44 rfl (by kernel_rfl)) rfl ?_
  exact ⟨rfl, kp_end hH.out hb0H.out hk3H.out (frm10 ((Frm.refl _ _).setCell (a := ⟨w.heap.size + 2, 0, none⟩) (.inl (by show w.heap.size ≤ w.heap.size + 2 ∧ w.heap.size + 2 < _; have := hr0H.out.lt; omega)) _) (.inl (by show w.heap.size ≤ w.heap.size + 1 ∧ w.heap.size + 1 < _; have := hR0H.out.lt; omega)) _ _ _ _ _ _ _ _ _ _)⟩
set_option maxRecDepth 100000 in
set_option maxHeartbeats 4000000 in
theorem on_dup (h : KerIs w B q K M) {pb : Nat} (a b : Int) (s t : ByteArray) (pa : Option Addr) (pn pc : Nat) (n1 er : Int)
    (hin : ∀ W, Below w.heap.size w W → Calls Tryz.prog 141 #[.pointer (some ⟨q, 0, none⟩), .pointer (some ⟨pb, 0, none⟩), .int .i64 a, .int .i64 b] W fun e w' => e = .returned (.tuple #[.int .i64 n1, .int .i64 er]) ∧ KP (AllX B) W K M w' q K') :
    Calls Tryz.prog 89 #[.pointer (some ⟨q, 0, none⟩), .pointer (some ⟨pb, 0, none⟩), .agg #[.int .i64 5, .int .i64 a, .int .i64 b, .string s, .string t, .slice pa pn pc]] w fun e w' => e = .returned (.tuple #[.agg #[.int .i64 n1, .int .i64 0, .string ⟨#[]⟩, .slice none 0 0, .int .i64 0, .int .i64 0, .int .i64 0, .int .i64 0, .int .i64 0, .int .i64 0], .int .i64 er]) ∧ KP (AllX B) w K M w' q K' := by
  have hinH := Lib.hid hin
  have hH := Lib.hid h
  clear h hin
  go_enter Tryz.func89, Tryz.ntmps89
  go_upto_region 13 with fail
  obtain ⟨W0, hW0⟩ : ∃ W, ((w.alloc (.cells #[.int .i64 5, .int .i64 a, .int .i64 b, .string s, .string t, .slice pa pn pc] 34)).alloc (.cells #[.int .i64 0, .int .i64 0, .string ⟨#[]⟩, .slice none 0 0, .int .i64 0, .int .i64 0, .int .i64 0, .int .i64 0, .int .i64 0, .int .i64 0] 44)).alloc (.cells #[.int .i64 0, .int .i64 0, .string ⟨#[]⟩, .slice none 0 0, .int .i64 0, .int .i64 0, .int .i64 0, .int .i64 0, .int .i64 0, .int .i64 0] 44) = W := ⟨_, rfl⟩
  have hb0 : Below w.heap.size w W0 := by rw [← hW0]; exact (((Below.refl _ w).alloc (Nat.le_refl _) _).alloc (by simp) _).alloc (by simp; omega) _
  have hC0 : Blk W0 w.heap.size 34 #[.int .i64 5, .int .i64 a, .int .i64 b, .string s, .string t, .slice pa pn pc] := by rw [← hW0]; exact ((Blk.new w _ _).alloc _).alloc _
  have hR0 : Blk W0 (w.heap.size + 1) 44 #[.int .i64 0, .int .i64 0, .string ⟨#[]⟩, .slice none 0 0, .int .i64 0, .int .i64 0, .int .i64 0, .int .i64 0, .int .i64 0, .int .i64 0] := by
    have h := (Blk.new (w.alloc (.cells #[.int .i64 5, .int .i64 a, .int .i64 b, .string s, .string t, .slice pa pn pc] 34)) 44 #[.int .i64 0, .int .i64 0, .string ⟨#[]⟩, .slice none 0 0, .int .i64 0, .int .i64 0, .int .i64 0, .int .i64 0, .int .i64 0, .int .i64 0]).alloc (.cells #[.int .i64 0, .int .i64 0, .string ⟨#[]⟩, .slice none 0 0, .int .i64 0, .int .i64 0, .int .i64 0, .int .i64 0, .int .i64 0, .int .i64 0] 44)
    rw [World.size_alloc, hW0] at h
    exact h
  have hr0 : Blk W0 (w.heap.size + 2) 44 #[.int .i64 0, .int .i64 0, .string ⟨#[]⟩, .slice none 0 0, .int .i64 0, .int .i64 0, .int .i64 0, .int .i64 0, .int .i64 0, .int .i64 0] := by
    have h := Blk.new ((w.alloc (.cells #[.int .i64 5, .int .i64 a, .int .i64 b, .string s, .string t, .slice pa pn pc] 34)).alloc (.cells #[.int .i64 0, .int .i64 0, .string ⟨#[]⟩, .slice none 0 0, .int .i64 0, .int .i64 0, .int .i64 0, .int .i64 0, .int .i64 0, .int .i64 0] 44)) 44 #[.int .i64 0, .int .i64 0, .string ⟨#[]⟩, .slice none 0 0, .int .i64 0, .int .i64 0, .int .i64 0, .int .i64 0, .int .i64 0, .int .i64 0]
    rw [World.size_alloc, World.size_alloc, hW0] at h
    exact h
  have a1 : W0.cell? ⟨w.heap.size, 1, none⟩ = some (.int .i64 a) := hC0.cell 1
  have a2 : W0.cell? ⟨w.heap.size, 2, none⟩ = some (.int .i64 b) := hC0.cell 2
  have a3 : W0.cell? ⟨w.heap.size, 3, none⟩ = some (.string s) := hC0.cell 3
  have hb0H := Lib.hid hb0
  have hR0H := Lib.hid hR0
  have hr0H := Lib.hid hr0
  rw [hW0]
  clear hb0 hC0 hR0 hr0 hW0
  go_wp2_with (first
    | (go_at_call 141; refine (hinH.out W0 hb0H.out).mono ?_; rintro e w3 ⟨rfl, hk3⟩
       have hR3 := hR0H.out.keep (kp_keep hH.out hk3 (by omega) hR0H.out.lt)
       have hr3 := hr0H.out.keep (kp_keep hH.out hk3 (by omega) hr0H.out.lt)
       have rc0 : w3.cell? ⟨w.heap.size + 1, 0, none⟩ = some (.int .i64 0) := hR3.cell 0
       have rf0 : w3.frozen? ⟨w.heap.size + 1, 0, none⟩ = false := hR3.frozen 0
       have rc1 : w3.cell? ⟨w.heap.size + 1, 1, none⟩ = some (.int .i64 0) := hR3.cell 1
       have rf1 : w3.frozen? ⟨w.heap.size + 1, 1, none⟩ = false := hR3.frozen 1
       have rc2 : w3.cell? ⟨w.heap.size + 1, 2, none⟩ = some (.string ⟨#[]⟩) := hR3.cell 2
       have rf2 : w3.frozen? ⟨w.heap.size + 1, 2, none⟩ = false := hR3.frozen 2
       have rc3 : w3.cell? ⟨w.heap.size + 1, 3, none⟩ = some (.slice none 0 0) := hR3.cell 3
       have rf3 : w3.frozen? ⟨w.heap.size + 1, 3, none⟩ = false := hR3.frozen 3
       have rc4 : w3.cell? ⟨w.heap.size + 1, 4, none⟩ = some (.int .i64 0) := hR3.cell 4
       have rf4 : w3.frozen? ⟨w.heap.size + 1, 4, none⟩ = false := hR3.frozen 4
       have rc5 : w3.cell? ⟨w.heap.size + 1, 5, none⟩ = some (.int .i64 0) := hR3.cell 5
       have rf5 : w3.frozen? ⟨w.heap.size + 1, 5, none⟩ = false := hR3.frozen 5
       have rc6 : w3.cell? ⟨w.heap.size + 1, 6, none⟩ = some (.int .i64 0) := hR3.cell 6
       have rf6 : w3.frozen? ⟨w.heap.size + 1, 6, none⟩ = false := hR3.frozen 6
       have rc7 : w3.cell? ⟨w.heap.size + 1, 7, none⟩ = some (.int .i64 0) := hR3.cell 7
       have rf7 : w3.frozen? ⟨w.heap.size + 1, 7, none⟩ = false := hR3.frozen 7
       have rc8 : w3.cell? ⟨w.heap.size + 1, 8, none⟩ = some (.int .i64 0) := hR3.cell 8
       have rf8 : w3.frozen? ⟨w.heap.size + 1, 8, none⟩ = false := hR3.frozen 8
       have rc9 : w3.cell? ⟨w.heap.size + 1, 9, none⟩ = some (.int .i64 0) := hR3.cell 9
       have rf9 : w3.frozen? ⟨w.heap.size + 1, 9, none⟩ = false := hR3.frozen 9
       have uc0 : w3.cell? ⟨w.heap.size + 2, 0, none⟩ = some (.int .i64 0) := hr3.cell 0
       have uf0 : w3.frozen? ⟨w.heap.size + 2, 0, none⟩ = false := hr3.frozen 0
       have uc1 : w3.cell? ⟨w.heap.size + 2, 1, none⟩ = some (.int .i64 0) := hr3.cell 1
       have uf1 : w3.frozen? ⟨w.heap.size + 2, 1, none⟩ = false := hr3.frozen 1
       have uc2 : w3.cell? ⟨w.heap.size + 2, 2, none⟩ = some (.string ⟨#[]⟩) := hr3.cell 2
       have uf2 : w3.frozen? ⟨w.heap.size + 2, 2, none⟩ = false := hr3.frozen 2
       have uc3 : w3.cell? ⟨w.heap.size + 2, 3, none⟩ = some (.slice none 0 0) := hr3.cell 3
       have uf3 : w3.frozen? ⟨w.heap.size + 2, 3, none⟩ = false := hr3.frozen 3
       have uc4 : w3.cell? ⟨w.heap.size + 2, 4, none⟩ = some (.int .i64 0) := hr3.cell 4
       have uf4 : w3.frozen? ⟨w.heap.size + 2, 4, none⟩ = false := hr3.frozen 4
       have uc5 : w3.cell? ⟨w.heap.size + 2, 5, none⟩ = some (.int .i64 0) := hr3.cell 5
       have uf5 : w3.frozen? ⟨w.heap.size + 2, 5, none⟩ = false := hr3.frozen 5
       have uc6 : w3.cell? ⟨w.heap.size + 2, 6, none⟩ = some (.int .i64 0) := hr3.cell 6
       have uf6 : w3.frozen? ⟨w.heap.size + 2, 6, none⟩ = false := hr3.frozen 6
       have uc7 : w3.cell? ⟨w.heap.size + 2, 7, none⟩ = some (.int .i64 0) := hr3.cell 7
       have uf7 : w3.frozen? ⟨w.heap.size + 2, 7, none⟩ = false := hr3.frozen 7
       have uc8 : w3.cell? ⟨w.heap.size + 2, 8, none⟩ = some (.int .i64 0) := hr3.cell 8
       have uf8 : w3.frozen? ⟨w.heap.size + 2, 8, none⟩ = false := hr3.frozen 8
       have uc9 : w3.cell? ⟨w.heap.size + 2, 9, none⟩ = some (.int .i64 0) := hr3.cell 9
       have uf9 : w3.frozen? ⟨w.heap.size + 2, 9, none⟩ = false := hr3.frozen 9
       have hk3H := Lib.hid hk3; have hR3H := Lib.hid hR3; clear hk3 hR3 hr3))
  (try simp only [Exit.inBlock, Exit.then])
  refine bodyPost_ret (results_cell_row2 rfl _ _ (w.heap.size + 1) 44 _ _ rfl (put10 (hR3H.out.far (p := ⟨w.heap.size + 2, 0, none⟩) (by show w.heap.size + 1 ≠ w.heap.size + 2; omega) _) (.int .i64 n1) (.int .i64 0) (.string ⟨#[]⟩) (.slice none 0 0) (.int .i64 0) (.int .i64 0) (.int .i64 0) (.int .i64 0) (.int .i64 0) (.int .i64 0)) Tryz.underlying44 rfl (by kernel_rfl)) rfl ?_
  exact ⟨rfl, kp_end hH.out hb0H.out hk3H.out (frm10 ((Frm.refl _ _).setCell (a := ⟨w.heap.size + 2, 0, none⟩) (.inl (by show w.heap.size ≤ w.heap.size + 2 ∧ w.heap.size + 2 < _; have := hr0H.out.lt; omega)) _) (.inl (by show w.heap.size ≤ w.heap.size + 1 ∧ w.heap.size + 1 < _; have := hR0H.out.lt; omega)) _ _ _ _ _ _ _ _ _ _)⟩
set_option maxRecDepth 100000 in
set_option maxHeartbeats 4000000 in
theorem on_pipe (h : KerIs w B q K M) {pb : Nat} (a b : Int) (s t : ByteArray) (pa : Option Addr) (pn pc : Nat) (n1 n2 er : Int)
    (hin : ∀ W, Below w.heap.size w W → Calls Tryz.prog 143 #[.pointer (some ⟨q, 0, none⟩), .pointer (some ⟨pb, 0, none⟩)] W fun e w' => e = .returned (.tuple #[.int .i64 n1, .int .i64 n2, .int .i64 er]) ∧ KP (AllX B) W K M w' q K') :
    Calls Tryz.prog 89 #[.pointer (some ⟨q, 0, none⟩), .pointer (some ⟨pb, 0, none⟩), .agg #[.int .i64 7, .int .i64 a, .int .i64 b, .string s, .string t, .slice pa pn pc]] w fun e w' => e = .returned (.tuple #[.agg #[.int .i64 n1, .int .i64 n2, .string ⟨#[]⟩, .slice none 0 0, .int .i64 0, .int .i64 0, .int .i64 0, .int .i64 0, .int .i64 0, .int .i64 0], .int .i64 er]) ∧ KP (AllX B) w K M w' q K' := by
  have hinH := Lib.hid hin
  have hH := Lib.hid h
  clear h hin
  go_enter Tryz.func89, Tryz.ntmps89
  go_upto_region 17 with fail
  obtain ⟨W0, hW0⟩ : ∃ W, ((w.alloc (.cells #[.int .i64 7, .int .i64 a, .int .i64 b, .string s, .string t, .slice pa pn pc] 34)).alloc (.cells #[.int .i64 0, .int .i64 0, .string ⟨#[]⟩, .slice none 0 0, .int .i64 0, .int .i64 0, .int .i64 0, .int .i64 0, .int .i64 0, .int .i64 0] 44)).alloc (.cells #[.int .i64 0, .int .i64 0, .string ⟨#[]⟩, .slice none 0 0, .int .i64 0, .int .i64 0, .int .i64 0, .int .i64 0, .int .i64 0, .int .i64 0] 44) = W := ⟨_, rfl⟩
  have hb0 : Below w.heap.size w W0 := by rw [← hW0]; exact (((Below.refl _ w).alloc (Nat.le_refl _) _).alloc (by simp) _).alloc (by simp; omega) _
  have hC0 : Blk W0 w.heap.size 34 #[.int .i64 7, .int .i64 a, .int .i64 b, .string s, .string t, .slice pa pn pc] := by rw [← hW0]; exact ((Blk.new w _ _).alloc _).alloc _
  have hR0 : Blk W0 (w.heap.size + 1) 44 #[.int .i64 0, .int .i64 0, .string ⟨#[]⟩, .slice none 0 0, .int .i64 0, .int .i64 0, .int .i64 0, .int .i64 0, .int .i64 0, .int .i64 0] := by
    have h := (Blk.new (w.alloc (.cells #[.int .i64 7, .int .i64 a, .int .i64 b, .string s, .string t, .slice pa pn pc] 34)) 44 #[.int .i64 0, .int .i64 0, .string ⟨#[]⟩, .slice none 0 0, .int .i64 0, .int .i64 0, .int .i64 0, .int .i64 0, .int .i64 0, .int .i64 0]).alloc (.cells #[.int .i64 0, .int .i64 0, .string ⟨#[]⟩, .slice none 0 0, .int .i64 0, .int .i64 0, .int .i64 0, .int .i64 0, .int .i64 0, .int .i64 0] 44)
    rw [World.size_alloc, hW0] at h
    exact h
  have hr0 : Blk W0 (w.heap.size + 2) 44 #[.int .i64 0, .int .i64 0, .string ⟨#[]⟩, .slice none 0 0, .int .i64 0, .int .i64 0, .int .i64 0, .int .i64 0, .int .i64 0, .int .i64 0] := by
    have h := Blk.new ((w.alloc (.cells #[.int .i64 7, .int .i64 a, .int .i64 b, .string s, .string t, .slice pa pn pc] 34)).alloc (.cells #[.int .i64 0, .int .i64 0, .string ⟨#[]⟩, .slice none 0 0, .int .i64 0, .int .i64 0, .int .i64 0, .int .i64 0, .int .i64 0, .int .i64 0] 44)) 44 #[.int .i64 0, .int .i64 0, .string ⟨#[]⟩, .slice none 0 0, .int .i64 0, .int .i64 0, .int .i64 0, .int .i64 0, .int .i64 0, .int .i64 0]
    rw [World.size_alloc, World.size_alloc, hW0] at h
    exact h
  have a1 : W0.cell? ⟨w.heap.size, 1, none⟩ = some (.int .i64 a) := hC0.cell 1
  have a2 : W0.cell? ⟨w.heap.size, 2, none⟩ = some (.int .i64 b) := hC0.cell 2
  have a3 : W0.cell? ⟨w.heap.size, 3, none⟩ = some (.string s) := hC0.cell 3
  have hb0H := Lib.hid hb0
  have hR0H := Lib.hid hR0
  have hr0H := Lib.hid hr0
  rw [hW0]
  clear hb0 hC0 hR0 hr0 hW0
  go_wp2_with (first
    | (go_at_call 143; refine (hinH.out W0 hb0H.out).mono ?_; rintro e w3 ⟨rfl, hk3⟩
       have hR3 := hR0H.out.keep (kp_keep hH.out hk3 (by omega) hR0H.out.lt)
       have hr3 := hr0H.out.keep (kp_keep hH.out hk3 (by omega) hr0H.out.lt)
       have rc0 : w3.cell? ⟨w.heap.size + 1, 0, none⟩ = some (.int .i64 0) := hR3.cell 0
       have rf0 : w3.frozen? ⟨w.heap.size + 1, 0, none⟩ = false := hR3.frozen 0
       have rc1 : w3.cell? ⟨w.heap.size + 1, 1, none⟩ = some (.int .i64 0) := hR3.cell 1
       have rf1 : w3.frozen? ⟨w.heap.size + 1, 1, none⟩ = false := hR3.frozen 1
       have rc2 : w3.cell? ⟨w.heap.size + 1, 2, none⟩ = some (.string ⟨#[]⟩) := hR3.cell 2
       have rf2 : w3.frozen? ⟨w.heap.size + 1, 2, none⟩ = false := hR3.frozen 2
       have rc3 : w3.cell? ⟨w.heap.size + 1, 3, none⟩ = some (.slice none 0 0) := hR3.cell 3
       have rf3 : w3.frozen? ⟨w.heap.size + 1, 3, none⟩ = false := hR3.frozen 3
       have rc4 : w3.cell? ⟨w.heap.size + 1, 4, none⟩ = some (.int .i64 0) := hR3.cell 4
       have rf4 : w3.frozen? ⟨w.heap.size + 1, 4, none⟩ = false := hR3.frozen 4
       have rc5 : w3.cell? ⟨w.heap.size + 1, 5, none⟩ = some (.int .i64 0) := hR3.cell 5
       have rf5 : w3.frozen? ⟨w.heap.size + 1, 5, none⟩ = false := hR3.frozen 5
       have rc6 : w3.cell? ⟨w.heap.size + 1, 6, none⟩ = some (.int .i64 0) := hR3.cell 6
       have rf6 : w3.frozen? ⟨w.heap.size + 1, 6, none⟩ = false := hR3.frozen 6
       have rc7 : w3.cell? ⟨w.heap.size + 1, 7, none⟩ = some (.int .i64 0) := hR3.cell 7
       have rf7 : w3.frozen? ⟨w.heap.size + 1, 7, none⟩ = false := hR3.frozen 7
       have rc8 : w3.cell? ⟨w.heap.size + 1, 8, none⟩ = some (.int .i64 0) := hR3.cell 8
       have rf8 : w3.frozen? ⟨w.heap.size + 1, 8, none⟩ = false := hR3.frozen 8
       have rc9 : w3.cell? ⟨w.heap.size + 1, 9, none⟩ = some (.int .i64 0) := hR3.cell 9
       have rf9 : w3.frozen? ⟨w.heap.size + 1, 9, none⟩ = false := hR3.frozen 9
       have uc0 : w3.cell? ⟨w.heap.size + 2, 0, none⟩ = some (.int .i64 0) := hr3.cell 0
       have uf0 : w3.frozen? ⟨w.heap.size + 2, 0, none⟩ = false := hr3.frozen 0
       have uc1 : w3.cell? ⟨w.heap.size + 2, 1, none⟩ = some (.int .i64 0) := hr3.cell 1
       have uf1 : w3.frozen? ⟨w.heap.size + 2, 1, none⟩ = false := hr3.frozen 1
       have uc2 : w3.cell? ⟨w.heap.size + 2, 2, none⟩ = some (.string ⟨#[]⟩) := hr3.cell 2
       have uf2 : w3.frozen? ⟨w.heap.size + 2, 2, none⟩ = false := hr3.frozen 2
       have uc3 : w3.cell? ⟨w.heap.size + 2, 3, none⟩ = some (.slice none 0 0) := hr3.cell 3
       have uf3 : w3.frozen? ⟨w.heap.size + 2, 3, none⟩ = false := hr3.frozen 3
       have uc4 : w3.cell? ⟨w.heap.size + 2, 4, none⟩ = some (.int .i64 0) := hr3.cell 4
       have uf4 : w3.frozen? ⟨w.heap.size + 2, 4, none⟩ = false := hr3.frozen 4
       have uc5 : w3.cell? ⟨w.heap.size + 2, 5, none⟩ = some (.int .i64 0) := hr3.cell 5
       have uf5 : w3.frozen? ⟨w.heap.size + 2, 5, none⟩ = false := hr3.frozen 5
       have uc6 : w3.cell? ⟨w.heap.size + 2, 6, none⟩ = some (.int .i64 0) := hr3.cell 6
       have uf6 : w3.frozen? ⟨w.heap.size + 2, 6, none⟩ = false := hr3.frozen 6
       have uc7 : w3.cell? ⟨w.heap.size + 2, 7, none⟩ = some (.int .i64 0) := hr3.cell 7
       have uf7 : w3.frozen? ⟨w.heap.size + 2, 7, none⟩ = false := hr3.frozen 7
       have uc8 : w3.cell? ⟨w.heap.size + 2, 8, none⟩ = some (.int .i64 0) := hr3.cell 8
       have uf8 : w3.frozen? ⟨w.heap.size + 2, 8, none⟩ = false := hr3.frozen 8
       have uc9 : w3.cell? ⟨w.heap.size + 2, 9, none⟩ = some (.int .i64 0) := hr3.cell 9
       have uf9 : w3.frozen? ⟨w.heap.size + 2, 9, none⟩ = false := hr3.frozen 9
       have hk3H := Lib.hid hk3; have hR3H := Lib.hid hR3; clear hk3 hR3 hr3))
  (try simp only [Exit.inBlock, Exit.then])
  refine bodyPost_ret (results_cell_row2 rfl _ _ (w.heap.size + 1) 44 _ _ rfl (put10 ((hR3H.out.far (p := ⟨w.heap.size + 2, 0, none⟩) (by show w.heap.size + 1 ≠ w.heap.size + 2; omega) _).far (p := ⟨w.heap.size + 2, 1, none⟩) (by show w.heap.size + 1 ≠ w.heap.size + 2; omega) _) (.int .i64 n1) (.int .i64 n2) (.string ⟨#[]⟩) (.slice none 0 0) (.int .i64 0) (.int .i64 0) (.int .i64 0) (.int .i64 0) (.int .i64 0) (.int .i64 0)) Tryz.underlying44 rfl (by kernel_rfl)) rfl ?_
  exact ⟨rfl, kp_end hH.out hb0H.out hk3H.out (frm10 (((Frm.refl _ _).setCell (a := ⟨w.heap.size + 2, 0, none⟩) (.inl (by show w.heap.size ≤ w.heap.size + 2 ∧ w.heap.size + 2 < _; have := hr0H.out.lt; omega)) _).setCell (a := ⟨w.heap.size + 2, 1, none⟩) (.inl (by show w.heap.size ≤ w.heap.size + 2 ∧ w.heap.size + 2 < _; have := hr0H.out.lt; omega)) _) (.inl (by show w.heap.size ≤ w.heap.size + 1 ∧ w.heap.size + 1 < _; have := hR0H.out.lt; omega)) _ _ _ _ _ _ _ _ _ _)⟩
set_option maxRecDepth 100000 in
set_option maxHeartbeats 4000000 in
theorem on_fork (h : KerIs w B q K M) {pb : Nat} (a b : Int) (s t : ByteArray) (pa : Option Addr) (pn pc : Nat) (n1 er : Int)
    (hin : ∀ W, Below w.heap.size w W → Calls Tryz.prog 158 #[.pointer (some ⟨q, 0, none⟩), .pointer (some ⟨pb, 0, none⟩)] W fun e w' => e = .returned (.tuple #[.int .i64 n1, .int .i64 er]) ∧ KP (AllX B) W K M w' q K') :
    Calls Tryz.prog 91 #[.pointer (some ⟨q, 0, none⟩), .pointer (some ⟨pb, 0, none⟩), .agg #[.int .i64 8, .int .i64 a, .int .i64 b, .string s, .string t, .slice pa pn pc]] w fun e w' => e = .returned (.tuple #[.agg #[.int .i64 n1, .int .i64 0, .string ⟨#[]⟩, .slice none 0 0, .int .i64 0, .int .i64 0, .int .i64 0, .int .i64 0, .int .i64 0, .int .i64 0], .int .i64 er]) ∧ KP (AllX B) w K M w' q K' := by
  have hinH := Lib.hid hin
  have hH := Lib.hid h
  clear h hin
  go_enter Tryz.func91, Tryz.ntmps91
  go_upto_region 6 with fail
  obtain ⟨W0, hW0⟩ : ∃ W, ((w.alloc (.cells #[.int .i64 8, .int .i64 a, .int .i64 b, .string s, .string t, .slice pa pn pc] 34)).alloc (.cells #[.int .i64 0, .int .i64 0, .string ⟨#[]⟩, .slice none 0 0, .int .i64 0, .int .i64 0, .int .i64 0, .int .i64 0, .int .i64 0, .int .i64 0] 44)).alloc (.cells #[.int .i64 0, .int .i64 0, .string ⟨#[]⟩, .slice none 0 0, .int .i64 0, .int .i64 0, .int .i64 0, .int .i64 0, .int .i64 0, .int .i64 0] 44) = W := ⟨_, rfl⟩
  have hb0 : Below w.heap.size w W0 := by rw [← hW0]; exact (((Below.refl _ w).alloc (Nat.le_refl _) _).alloc (by simp) _).alloc (by simp; omega) _
  have hC0 : Blk W0 w.heap.size 34 #[.int .i64 8, .int .i64 a, .int .i64 b, .string s, .string t, .slice pa pn pc] := by rw [← hW0]; exact ((Blk.new w _ _).alloc _).alloc _
  have hR0 : Blk W0 (w.heap.size + 1) 44 #[.int .i64 0, .int .i64 0, .string ⟨#[]⟩, .slice none 0 0, .int .i64 0, .int .i64 0, .int .i64 0, .int .i64 0, .int .i64 0, .int .i64 0] := by
    have h := (Blk.new (w.alloc (.cells #[.int .i64 8, .int .i64 a, .int .i64 b, .string s, .string t, .slice pa pn pc] 34)) 44 #[.int .i64 0, .int .i64 0, .string ⟨#[]⟩, .slice none 0 0, .int .i64 0, .int .i64 0, .int .i64 0, .int .i64 0, .int .i64 0, .int .i64 0]).alloc (.cells #[.int .i64 0, .int .i64 0, .string ⟨#[]⟩, .slice none 0 0, .int .i64 0, .int .i64 0, .int .i64 0, .int .i64 0, .int .i64 0, .int .i64 0] 44)
    rw [World.size_alloc, hW0] at h
    exact h
  have hr0 : Blk W0 (w.heap.size + 2) 44 #[.int .i64 0, .int .i64 0, .string ⟨#[]⟩, .slice none 0 0, .int .i64 0, .int .i64 0, .int .i64 0, .int .i64 0, .int .i64 0, .int .i64 0] := by
    have h := Blk.new ((w.alloc (.cells #[.int .i64 8, .int .i64 a, .int .i64 b, .string s, .string t, .slice pa pn pc] 34)).alloc (.cells #[.int .i64 0, .int .i64 0, .string ⟨#[]⟩, .slice none 0 0, .int .i64 0, .int .i64 0, .int .i64 0, .int .i64 0, .int .i64 0, .int .i64 0] 44)) 44 #[.int .i64 0, .int .i64 0, .string ⟨#[]⟩, .slice none 0 0, .int .i64 0, .int .i64 0, .int .i64 0, .int .i64 0, .int .i64 0, .int .i64 0]
    rw [World.size_alloc, World.size_alloc, hW0] at h
    exact h
  have a1 : W0.cell? ⟨w.heap.size, 1, none⟩ = some (.int .i64 a) := hC0.cell 1
  have a2 : W0.cell? ⟨w.heap.size, 2, none⟩ = some (.int .i64 b) := hC0.cell 2
  have a3 : W0.cell? ⟨w.heap.size, 3, none⟩ = some (.string s) := hC0.cell 3
  have hb0H := Lib.hid hb0
  have hR0H := Lib.hid hR0
  have hr0H := Lib.hid hr0
  rw [hW0]
  clear hb0 hC0 hR0 hr0 hW0
  go_wp2_with (first
    | (go_at_call 158; refine (hinH.out W0 hb0H.out).mono ?_; rintro e w3 ⟨rfl, hk3⟩
       have hR3 := hR0H.out.keep (kp_keep hH.out hk3 (by omega) hR0H.out.lt)
       have hr3 := hr0H.out.keep (kp_keep hH.out hk3 (by omega) hr0H.out.lt)
       have rc0 : w3.cell? ⟨w.heap.size + 1, 0, none⟩ = some (.int .i64 0) := hR3.cell 0
       have rf0 : w3.frozen? ⟨w.heap.size + 1, 0, none⟩ = false := hR3.frozen 0
       have rc1 : w3.cell? ⟨w.heap.size + 1, 1, none⟩ = some (.int .i64 0) := hR3.cell 1
       have rf1 : w3.frozen? ⟨w.heap.size + 1, 1, none⟩ = false := hR3.frozen 1
       have rc2 : w3.cell? ⟨w.heap.size + 1, 2, none⟩ = some (.string ⟨#[]⟩) := hR3.cell 2
       have rf2 : w3.frozen? ⟨w.heap.size + 1, 2, none⟩ = false := hR3.frozen 2
       have rc3 : w3.cell? ⟨w.heap.size + 1, 3, none⟩ = some (.slice none 0 0) := hR3.cell 3
       have rf3 : w3.frozen? ⟨w.heap.size + 1, 3, none⟩ = false := hR3.frozen 3
       have rc4 : w3.cell? ⟨w.heap.size + 1, 4, none⟩ = some (.int .i64 0) := hR3.cell 4
       have rf4 : w3.frozen? ⟨w.heap.size + 1, 4, none⟩ = false := hR3.frozen 4
       have rc5 : w3.cell? ⟨w.heap.size + 1, 5, none⟩ = some (.int .i64 0) := hR3.cell 5
       have rf5 : w3.frozen? ⟨w.heap.size + 1, 5, none⟩ = false := hR3.frozen 5
       have rc6 : w3.cell? ⟨w.heap.size + 1, 6, none⟩ = some (.int .i64 0) := hR3.cell 6
       have rf6 : w3.frozen? ⟨w.heap.size + 1, 6, none⟩ = false := hR3.frozen 6
       have rc7 : w3.cell? ⟨w.heap.size + 1, 7, none⟩ = some (.int .i64 0) := hR3.cell 7
       have rf7 : w3.frozen? ⟨w.heap.size + 1, 7, none⟩ = false := hR3.frozen 7
       have rc8 : w3.cell? ⟨w.heap.size + 1, 8, none⟩ = some (.int .i64 0) := hR3.cell 8
       have rf8 : w3.frozen? ⟨w.heap.size + 1, 8, none⟩ = false := hR3.frozen 8
       have rc9 : w3.cell? ⟨w.heap.size + 1, 9, none⟩ = some (.int .i64 0) := hR3.cell 9
       have rf9 : w3.frozen? ⟨w.heap.size + 1, 9, none⟩ = false := hR3.frozen 9
       have uc0 : w3.cell? ⟨w.heap.size + 2, 0, none⟩ = some (.int .i64 0) := hr3.cell 0
       have uf0 : w3.frozen? ⟨w.heap.size + 2, 0, none⟩ = false := hr3.frozen 0
       have uc1 : w3.cell? ⟨w.heap.size + 2, 1, none⟩ = some (.int .i64 0) := hr3.cell 1
       have uf1 : w3.frozen? ⟨w.heap.size + 2, 1, none⟩ = false := hr3.frozen 1
       have uc2 : w3.cell? ⟨w.heap.size + 2, 2, none⟩ = some (.string ⟨#[]⟩) := hr3.cell 2
       have uf2 : w3.frozen? ⟨w.heap.size + 2, 2, none⟩ = false := hr3.frozen 2
       have uc3 : w3.cell? ⟨w.heap.size + 2, 3, none⟩ = some (.slice none 0 0) := hr3.cell 3
       have uf3 : w3.frozen? ⟨w.heap.size + 2, 3, none⟩ = false := hr3.frozen 3
       have uc4 : w3.cell? ⟨w.heap.size + 2, 4, none⟩ = some (.int .i64 0) := hr3.cell 4
       have uf4 : w3.frozen? ⟨w.heap.size + 2, 4, none⟩ = false := hr3.frozen 4
       have uc5 : w3.cell? ⟨w.heap.size + 2, 5, none⟩ = some (.int .i64 0) := hr3.cell 5
       have uf5 : w3.frozen? ⟨w.heap.size + 2, 5, none⟩ = false := hr3.frozen 5
       have uc6 : w3.cell? ⟨w.heap.size + 2, 6, none⟩ = some (.int .i64 0) := hr3.cell 6
       have uf6 : w3.frozen? ⟨w.heap.size + 2, 6, none⟩ = false := hr3.frozen 6
       have uc7 : w3.cell? ⟨w.heap.size + 2, 7, none⟩ = some (.int .i64 0) := hr3.cell 7
       have uf7 : w3.frozen? ⟨w.heap.size + 2, 7, none⟩ = false := hr3.frozen 7
       have uc8 : w3.cell? ⟨w.heap.size + 2, 8, none⟩ = some (.int .i64 0) := hr3.cell 8
       have uf8 : w3.frozen? ⟨w.heap.size + 2, 8, none⟩ = false := hr3.frozen 8
       have uc9 : w3.cell? ⟨w.heap.size + 2, 9, none⟩ = some (.int .i64 0) := hr3.cell 9
       have uf9 : w3.frozen? ⟨w.heap.size + 2, 9, none⟩ = false := hr3.frozen 9
       have hk3H := Lib.hid hk3; have hR3H := Lib.hid hR3; clear hk3 hR3 hr3))
  (try simp only [Exit.inBlock, Exit.then])
  refine bodyPost_ret (results_cell_row2 rfl _ _ (w.heap.size + 1) 44 _ _ rfl (put10 (hR3H.out.far (p := ⟨w.heap.size + 2, 0, none⟩) (by show w.heap.size + 1 ≠ w.heap.size + 2; omega) _) (.int .i64 n1) (.int .i64 0) (.string ⟨#[]⟩) (.slice none 0 0) (.int .i64 0) (.int .i64 0) (.int .i64 0) (.int .i64 0) (.int .i64 0) (.int .i64 0)) Tryz.underlying44 rfl (by kernel_rfl)) rfl ?_
  exact ⟨rfl, kp_end hH.out hb0H.out hk3H.out (frm10 ((Frm.refl _ _).setCell (a := ⟨w.heap.size + 2, 0, none⟩) (.inl (by show w.heap.size ≤ w.heap.size + 2 ∧ w.heap.size + 2 < _; have := hr0H.out.lt; omega)) _) (.inl (by show w.heap.size ≤ w.heap.size + 1 ∧ w.heap.size + 1 < _; have := hR0H.out.lt; omega)) _ _ _ _ _ _ _ _ _ _)⟩
end
end Go.Proofs.YtmilagppbepnbaaGreat.Kn
/- The kernel's gate: answer, whatever the inner call does. Condition: the kernel lies as stated. -/
namespace Go.Proofs.YtmilagppbepnbaaGreat.Kn
open Go.RowKit Go.PlainAid
set_option linter.unusedVariables false
set_option linter.unusedSimpArgs false
attribute [local go_sem] Oper.semAt_some
section
variable {w w' w3 w4 : World} {B : Ix → Nat → Prop} {q : Nat} {K K' : Ker} {M : Mp} {c : Nat}
set_option maxRecDepth 100000 in
set_option maxHeartbeats 4000000 in
theorem answer_1 (h : KerIs w B q K M) {pb : Nat} (a b : Int) (s t : ByteArray) (pa : Option Addr) (pn pc : Nat) (n1 n2 : Int) (st : ByteArray) (la : Option Addr) (ln lc : Nat) (x0 x1 x2 x3 x4 er : Int)
    (hin : ∀ W, Below w.heap.size w W → Calls Tryz.prog 89 #[.pointer (some ⟨q, 0, none⟩), .pointer (some ⟨pb, 0, none⟩), .agg #[.int .i64 1, .int .i64 a, .int .i64 b, .string s, .string t, .slice pa pn pc]] W fun e w' => e = .returned (.tuple #[.agg #[.int .i64 n1, .int .i64 n2, .string st, .slice la ln lc, .int .i64 x0, .int .i64 x1, .int .i64 x2, .int .i64 x3, .int .i64 x4, .int .i64 0], .int .i64 er]) ∧ KP (AllX B) W K M w' q K') :
    Calls Tryz.prog 48 #[.pointer (some ⟨q, 0, none⟩), .pointer (some ⟨pb, 0, none⟩), .agg #[.int .i64 1, .int .i64 a, .int .i64 b, .string s, .string t, .slice pa pn pc]] w fun e w' => e = .returned (.tuple #[.agg #[.int .i64 n1, .int .i64 n2, .string st, .slice la ln lc, .int .i64 x0, .int .i64 x1, .int .i64 x2, .int .i64 x3, .int .i64 x4, .int .i64 0], .int .i64 er]) ∧ KP (AllX B) w K M w' q K' := by
  have hinH := Lib.hid hin
  have hH := Lib.hid h
  clear h hin
  go_enter Tryz.func48, Tryz.ntmps48
  go_upto_region 12 with fail
  obtain ⟨W0, hW0⟩ : ∃ W, (w.alloc (.cells #[.int .i64 1, .int .i64 a, .int .i64 b, .string s, .string t, .slice pa pn pc] 34)).alloc (.cells #[.int .i64 0, .int .i64 0, .string ⟨#[]⟩, .slice none 0 0, .int .i64 0, .int .i64 0, .int .i64 0, .int .i64 0, .int .i64 0, .int .i64 0] 44) = W := ⟨_, rfl⟩
  have hb0 : Below w.heap.size w W0 := by rw [← hW0]; exact ((Below.refl _ w).alloc (Nat.le_refl _) _).alloc (by simp) _
  have hC0 : Blk W0 w.heap.size 34 #[.int .i64 1, .int .i64 a, .int .i64 b, .string s, .string t, .slice pa pn pc] := by rw [← hW0]; exact (Blk.new w _ _).alloc _
  have hR0 : Blk W0 (w.heap.size + 1) 44 #[.int .i64 0, .int .i64 0, .string ⟨#[]⟩, .slice none 0 0, .int .i64 0, .int .i64 0, .int .i64 0, .int .i64 0, .int .i64 0, .int .i64 0] := by
    have h := Blk.new (w.alloc (.cells #[.int .i64 1, .int .i64 a, .int .i64 b, .string s, .string t, .slice pa pn pc] 34)) 44 #[.int .i64 0, .int .i64 0, .string ⟨#[]⟩, .slice none 0 0, .int .i64 0, .int .i64 0, .int .i64 0, .int .i64 0, .int .i64 0, .int .i64 0]
    rw [World.size_alloc, hW0] at h
    exact h
  have a0 : W0.cell? ⟨w.heap.size, 0, none⟩ = some (.int .i64 1) := hC0.cell 0
  have a1 : W0.cell? ⟨w.heap.size, 1, none⟩ = some (.int .i64 a) := hC0.cell 1
  have a2 : W0.cell? ⟨w.heap.size, 2, none⟩ = some (.int .i64 b) := hC0.cell 2
  have a3 : W0.cell? ⟨w.heap.size, 3, none⟩ = some (.string s) := hC0.cell 3
  have a4 : W0.cell? ⟨w.heap.size, 4, none⟩ = some (.string t) := hC0.cell 4
  have a5 : W0.cell? ⟨w.heap.size, 5, none⟩ = some (.slice pa pn pc) := hC0.cell 5
  have hb0H := Lib.hid hb0
  have hR0H := Lib.hid hR0
  rw [hW0]
  clear hb0 hC0 hR0 hW0
  go_wp2_with (first
    | (go_at_call 89; refine (hinH.out W0 hb0H.out).mono ?_; rintro e w3 ⟨rfl, hk3⟩
       have hR3 := hR0H.out.keep (kp_keep hH.out hk3 (by omega) hR0H.out.lt)
       have rc0 : w3.cell? ⟨w.heap.size + 1, 0, none⟩ = some (.int .i64 0) := hR3.cell 0
       have rf0 : w3.frozen? ⟨w.heap.size + 1, 0, none⟩ = false := hR3.frozen 0
       have rc1 : w3.cell? ⟨w.heap.size + 1, 1, none⟩ = some (.int .i64 0) := hR3.cell 1
       have rf1 : w3.frozen? ⟨w.heap.size + 1, 1, none⟩ = false := hR3.frozen 1
       have rc2 : w3.cell? ⟨w.heap.size + 1, 2, none⟩ = some (.string ⟨#[]⟩) := hR3.cell 2
       have rf2 : w3.frozen? ⟨w.heap.size + 1, 2, none⟩ = false := hR3.frozen 2
       have rc3 : w3.cell? ⟨w.heap.size + 1, 3, none⟩ = some (.slice none 0 0) := hR3.cell 3
       have rf3 : w3.frozen? ⟨w.heap.size + 1, 3, none⟩ = false := hR3.frozen 3
       have rc4 : w3.cell? ⟨w.heap.size + 1, 4, none⟩ = some (.int .i64 0) := hR3.cell 4
       have rf4 : w3.frozen? ⟨w.heap.size + 1, 4, none⟩ = false := hR3.frozen 4
       have rc5 : w3.cell? ⟨w.heap.size + 1, 5, none⟩ = some (.int .i64 0) := hR3.cell 5
       have rf5 : w3.frozen? ⟨w.heap.size + 1, 5, none⟩ = false := hR3.frozen 5
       have rc6 : w3.cell? ⟨w.heap.size + 1, 6, none⟩ = some (.int .i64 0) := hR3.cell 6
       have rf6 : w3.frozen? ⟨w.heap.size + 1, 6, none⟩ = false := hR3.frozen 6
       have rc7 : w3.cell? ⟨w.heap.size + 1, 7, none⟩ = some (.int .i64 0) := hR3.cell 7
       have rf7 : w3.frozen? ⟨w.heap.size + 1, 7, none⟩ = false := hR3.frozen 7
       have rc8 : w3.cell? ⟨w.heap.size + 1, 8, none⟩ = some (.int .i64 0) := hR3.cell 8
       have rf8 : w3.frozen? ⟨w.heap.size + 1, 8, none⟩ = false := hR3.frozen 8
       have rc9 : w3.cell? ⟨w.heap.size + 1, 9, none⟩ = some (.int .i64 0) := hR3.cell 9
       have rf9 : w3.frozen? ⟨w.heap.size + 1, 9, none⟩ = false := hR3.frozen 9
       have hk3H := Lib.hid hk3; have hR3H := Lib.hid hR3; clear hk3 hR3))
  (try simp only [Exit.inBlock, Exit.then])
  refine bodyPost_ret (results_cell_row2 rfl _ _ (w.heap.size + 1) 44 _ _ rfl (put10 hR3H.out (.int .i64 n1) (.int .i64 n2) (.string st) (.slice la ln lc) (.int .i64 x0) (.int .i64 x1) (.int .i64 x2) (.int .i64 x3) (.int .i64 x4) (.int .i64 0)) Tryz.underlying44 rfl (by kernel_rfl)) rfl ?_
  exact ⟨rfl, kp_end hH.out hb0H.out hk3H.out (frm10 (Frm.refl _ _) (.inl (by show w.heap.size ≤ w.heap.size + 1 ∧ w.heap.size + 1 < _; have := hR0H.out.lt; omega)) _ _ _ _ _ _ _ _ _ _)⟩
set_option maxRecDepth 100000 in
set_option maxHeartbeats 4000000 in
theorem answer_2 (h : KerIs w B q K M) {pb : Nat} (a b : Int) (s t : ByteArray) (pa : Option Addr) (pn pc : Nat) (n1 n2 : Int) (st : ByteArray) (la : Option Addr) (ln lc : Nat) (x0 x1 x2 x3 x4 er : Int)
    (hin : ∀ W, Below w.heap.size w W → Calls Tryz.prog 89 #[.pointer (some ⟨q, 0, none⟩), .pointer (some ⟨pb, 0, none⟩), .agg #[.int .i64 2, .int .i64 a, .int .i64 b, .string s, .string t, .slice pa pn pc]] W fun e w' => e = .returned (.tuple #[.agg #[.int .i64 n1, .int .i64 n2, .string st, .slice la ln lc, .int .i64 x0, .int .i64 x1, .int .i64 x2, .int .i64 x3, .int .i64 x4, .int .i64 0], .int .i64 er]) ∧ KP (AllX B) W K M w' q K') :
    Calls Tryz.prog 48 #[.pointer (some ⟨q, 0, none⟩), .pointer (some ⟨pb, 0, none⟩), .agg #[.int .i64 2, .int .i64 a, .int .i64 b, .string s, .string t, .slice pa pn pc]] w fun e w' => e = .returned (.tuple #[.agg #[.int .i64 n1, .int .i64 n2, .string st, .slice la ln lc, .int .i64 x0, .int .i64 x1, .int .i64 x2, .int .i64 x3, .int .i64 x4, .int .i64 0], .int .i64 er]) ∧ KP (AllX B) w K M w' q K' := by
  have hinH := Lib.hid hin
  have hH := Lib.hid h
  clear h hin
  go_enter Tryz.func48, Tryz.ntmps48
  go_upto_region 12 with fail
  obtain ⟨W0, hW0⟩ : ∃ W, (w.alloc (.cells #[.int .i64 2, .int .i64 a, .int .i64 b, .string s, .string t, .slice pa pn pc] 34)).alloc (.cells #[.int .i64 0, .int .i64 0, .string ⟨#[]⟩, .slice none 0 0, .int .i64 0, .int .i64 0, .int .i64 0, .int .i64 0, .int .i64 0, .int .i64 0] 44) = W := ⟨_, rfl⟩
  have hb0 : Below w.heap.size w W0 := by rw [← hW0]; exact ((Below.refl _ w).alloc (Nat.le_refl _) _).alloc (by simp) _
  have hC0 : Blk W0 w.heap.size 34 #[.int .i64 2, .int .i64 a, .int .i64 b, .string s, .string t, .slice pa pn pc] := by rw [← hW0]; exact (Blk.new w _ _).alloc _
  have hR0 : Blk W0 (w.heap.size + 1) 44 #[.int .i64 0, .int .i64 0, .string ⟨#[]⟩, .slice none 0 0, .int .i64 0, .int .i64 0, .int .i64 0, .int .i64 0, .int .i64 0, .int .i64 0] := by
    have h := Blk.new (w.alloc (.cells #[.int .i64 2, .int .i64 a, .int .i64 b, .string s, .string t, .slice pa pn pc] 34)) 44 #[.int .i64 0, .int .i64 0, .string ⟨#[]⟩, .slice none 0 0, .int .i64 0, .int .i64 0, .int .i64 0, .int .i64 0, .int .i64 0, .int .i64 0]
    rw [World.size_alloc, hW0] at h
    exact h
  have a0 : W0.cell? ⟨w.heap.size, 0, none⟩ = some (.int .i64 2) := hC0.cell 0
  have a1 : W0.cell? ⟨w.heap.size, 1, none⟩ = some (.int .i64 a) := hC0.cell 1
  have a2 : W0.cell? ⟨w.heap.size, 2, none⟩ = some (.int .i64 b) := hC0.cell 2
  have a3 : W0.cell? ⟨w.heap.size, 3, none⟩ = some (.string s) := hC0.cell 3
  have a4 : W0.cell? ⟨w.heap.size, 4, none⟩ = some (.string t) := hC0.cell 4
  have a5 : W0.cell? ⟨w.heap.size, 5, none⟩ = some (.slice pa pn pc) := hC0.cell 5
  have hb0H := Lib.hid hb0
  have hR0H := Lib.hid hR0
  rw [hW0]
  clear hb0 hC0 hR0 hW0
  go_wp2_with (first
    | (go_at_call 89; refine (hinH.out W0 hb0H.out).mono ?_; rintro e w3 ⟨rfl, hk3⟩
       have hR3 := hR0H.out.keep (kp_keep hH.out hk3 (by omega) hR0H.out.lt)
       have rc0 : w3.cell? ⟨w.heap.size + 1, 0, none⟩ = some (.int .i64 0) := hR3.cell 0
       have rf0 : w3.frozen? ⟨w.heap.size + 1, 0, none⟩ = false := hR3.frozen 0
       have rc1 : w3.cell? ⟨w.heap.size + 1, 1, none⟩ = some (.int .i64 0) := hR3.cell 1
       have rf1 : w3.frozen? ⟨w.heap.size + 1, 1, none⟩ = false := hR3.frozen 1
       have rc2 : w3.cell? ⟨w.heap.size + 1, 2, none⟩ = some (.string ⟨#[]⟩) := hR3.cell 2
       have rf2 : w3.frozen? ⟨w.heap.size + 1, 2, none⟩ = false := hR3.frozen 2
       have rc3 : w3.cell? ⟨w.heap.size + 1, 3, none⟩ = some (.slice none 0 0) := hR3.cell 3
       have rf3 : w3.frozen? ⟨w.heap.size + 1, 3, none⟩ = false := hR3.frozen 3
       have rc4 : w3.cell? ⟨w.heap.size + 1, 4, none⟩ = some (.int .i64 0) := hR3.cell 4
       have rf4 : w3.frozen? ⟨w.heap.size + 1, 4, none⟩ = false := hR3.frozen 4
       have rc5 : w3.cell? ⟨w.heap.size + 1, 5, none⟩ = some (.int .i64 0) := hR3.cell 5
       have rf5 : w3.frozen? ⟨w.heap.size + 1, 5, none⟩ = false := hR3.frozen 5
       have rc6 : w3.cell? ⟨w.heap.size + 1, 6, none⟩ = some (.int .i64 0) := hR3.cell 6
       have rf6 : w3.frozen? ⟨w.heap.size + 1, 6, none⟩ = false := hR3.frozen 6
       have rc7 : w3.cell? ⟨w.heap.size + 1, 7, none⟩ = some (.int .i64 0) := hR3.cell 7
       have rf7 : w3.frozen? ⟨w.heap.size + 1, 7, none⟩ = false := hR3.frozen 7
       have rc8 : w3.cell? ⟨w.heap.size + 1, 8, none⟩ = some (.int .i64 0) := hR3.cell 8
       have rf8 : w3.frozen? ⟨w.heap.size + 1, 8, none⟩ = false := hR3.frozen 8
       have rc9 : w3.cell? ⟨w.heap.size + 1, 9, none⟩ = some (.int .i64 0) := hR3.cell 9
       have rf9 : w3.frozen? ⟨w.heap.size + 1, 9, none⟩ = false := hR3.frozen 9
       have hk3H := Lib.hid hk3; have hR3H := Lib.hid hR3; clear hk3 hR3))
  (try simp only [Exit.inBlock, Exit.then])
  refine bodyPost_ret (results_cell_row2 rfl _ _ (w.heap.size + 1) 44 _ _ rfl (put10 hR3H.out (.int .i64 n1) (.int .i64 n2) (.string st) (.slice la ln lc) (.int .i64 x0) (.int .i64 x1) (.int .i64 x2) (.int .i64 x3) (.int .i64 x4) (.int .i64 0)) Tryz.underlying44 rfl (by kernel_rfl)) rfl ?_
  exact ⟨rfl, kp_end hH.out hb0H.out hk3H.out (frm10 (Frm.refl _ _) (.inl (by show w.heap.size ≤ w.heap.size + 1 ∧ w.heap.size + 1 < _; have := hR0H.out.lt; omega)) _ _ _ _ _ _ _ _ _ _)⟩
set_option maxRecDepth 100000 in
set_option maxHeartbeats 4000000 in
theorem answer_7 (h : KerIs w B q K M) {pb : Nat} (a b : Int) (s t : ByteArray) (pa : Option Addr) (pn pc : Nat) (n1 n2 : Int) (st : ByteArray) (la : Option Addr) (ln lc : Nat) (x0 x1 x2 x3 x4 er : Int)
    (hin : ∀ W, Below w.heap.size w W → Calls Tryz.prog 89 #[.pointer (some ⟨q, 0, none⟩), .pointer (some ⟨pb, 0, none⟩), .agg #[.int .i64 7, .int .i64 a, .int .i64 b, .string s, .string t, .slice pa pn pc]] W fun e w' => e = .returned (.tuple #[.agg #[.int .i64 n1, .int .i64 n2, .string st, .slice la ln lc, .int .i64 x0, .int .i64 x1, .int .i64 x2, .int .i64 x3, .int .i64 x4, .int .i64 0], .int .i64 er]) ∧ KP (AllX B) W K M w' q K') :
    Calls Tryz.prog 48 #[.pointer (some ⟨q, 0, none⟩), .pointer (some ⟨pb, 0, none⟩), .agg #[.int .i64 7, .int .i64 a, .int .i64 b, .string s, .string t, .slice pa pn pc]] w fun e w' => e = .returned (.tuple #[.agg #[.int .i64 n1, .int .i64 n2, .string st, .slice la ln lc, .int .i64 x0, .int .i64 x1, .int .i64 x2, .int .i64 x3, .int .i64 x4, .int .i64 0], .int .i64 er]) ∧ KP (AllX B) w K M w' q K' := by
  have hinH := Lib.hid hin
  have hH := Lib.hid h
  clear h hin
  go_enter Tryz.func48, Tryz.ntmps48
  go_upto_region 12 with fail
  obtain ⟨W0, hW0⟩ : ∃ W, (w.alloc (.cells #[.int .i64 7, .int .i64 a, .int .i64 b, .string s, .string t, .slice pa pn pc] 34)).alloc (.cells #[.int .i64 0, .int .i64 0, .string ⟨#[]⟩, .slice none 0 0, .int .i64 0, .int .i64 0, .int .i64 0, .int .i64 0, .int .i64 0, .int .i64 0] 44) = W := ⟨_, rfl⟩
  have hb0 : Below w.heap.size w W0 := by rw [← hW0]; exact ((Below.refl _ w).alloc (Nat.le_refl _) _).alloc (by simp) _
  have hC0 : Blk W0 w.heap.size 34 #[.int .i64 7, .int .i64 a, .int .i64 b, .string s, .string t, .slice pa pn pc] := by rw [← hW0]; exact (Blk.new w _ _).alloc _
  have hR0 : Blk W0 (w.heap.size + 1) 44 #[.int .i64 0, .int .i64 0, .string ⟨#[]⟩, .slice none 0 0, .int .i64 0, .int .i64 0, .int .i64 0, .int .i64 0, .int .i64 0, .int .i64 0] := by
    have h := Blk.new (w.alloc (.cells #[.int .i64 7, .int .i64 a, .int .i64 b, .string s, .string t, .slice pa pn pc] 34)) 44 #[.int .i64 0, .int .i64 0, .string ⟨#[]⟩, .slice none 0 0, .int .i64 0, .int .i64 0, .int .i64 0, .int .i64 0, .int .i64 0, .int .i64 0]
    rw [World.size_alloc, hW0] at h
    exact h
  have a0 : W0.cell? ⟨w.heap.size, 0, none⟩ = some (.int .i64 7) := hC0.cell 0
  have a1 : W0.cell? ⟨w.heap.size, 1, none⟩ = some (.int .i64 a) := hC0.cell 1
  have a2 : W0.cell? ⟨w.heap.size, 2, none⟩ = some (.int .i64 b) := hC0.cell 2
  have a3 : W0.cell? ⟨w.heap.size, 3, none⟩ = some (.string s) := hC0.cell 3
  have a4 : W0.cell? ⟨w.heap.size, 4, none⟩ = some (.string t) := hC0.cell 4
  have a5 : W0.cell? ⟨w.heap.size, 5, none⟩ = some (.slice pa pn pc) := hC0.cell 5
  have hb0H := Lib.hid hb0
  have hR0H := Lib.hid hR0
  rw [hW0]
  clear hb0 hC0 hR0 hW0
  go_wp2_with (first
    | (go_at_call 89; refine (hinH.out W0 hb0H.out).mono ?_; rintro e w3 ⟨rfl, hk3⟩
       have hR3 := hR0H.out.keep (kp_keep hH.out hk3 (by omega) hR0H.out.lt)
       have rc0 : w3.cell? ⟨w.heap.size + 1, 0, none⟩ = some (.int .i64 0) := hR3.cell 0
       have rf0 : w3.frozen? ⟨w.heap.size + 1, 0, none⟩ = false := hR3.frozen 0
       have rc1 : w3.cell? ⟨w.heap.size + 1, 1, none⟩ = some (.int .i64 0) := hR3.cell 1
       have rf1 : w3.frozen? ⟨w.heap.size + 1, 1, none⟩ = false := hR3.frozen 1
       have rc2 : w3.cell? ⟨w.heap.size + 1, 2, none⟩ = some (.string ⟨#[]⟩) := hR3.cell 2
       have rf2 : w3.frozen? ⟨w.heap.size + 1, 2, none⟩ = false := hR3.frozen 2
       have rc3 : w3.cell? ⟨w.heap.size + 1, 3, none⟩ = some (.slice none 0 0) := hR3.cell 3
       have rf3 : w3.frozen? ⟨w.heap.size + 1, 3, none⟩ = false := hR3.frozen 3
       have rc4 : w3.cell? ⟨w.heap.size + 1, 4, none⟩ = some (.int .i64 0) := hR3.cell 4
       have rf4 : w3.frozen? ⟨w.heap.size + 1, 4, none⟩ = false := hR3.frozen 4
       have rc5 : w3.cell? ⟨w.heap.size + 1, 5, none⟩ = some (.int .i64 0) := hR3.cell 5
       have rf5 : w3.frozen? ⟨w.heap.size + 1, 5, none⟩ = false := hR3.frozen 5
       have rc6 : w3.cell? ⟨w.heap.size + 1, 6, none⟩ = some (.int .i64 0) := hR3.cell 6
       have rf6 : w3.frozen? ⟨w.heap.size + 1, 6, none⟩ = false := hR3.frozen 6
       have rc7 : w3.cell? ⟨w.heap.size + 1, 7, none⟩ = some (.int .i64 0) := hR3.cell 7
       have rf7 : w3.frozen? ⟨w.heap.size + 1, 7, none⟩ = false := hR3.frozen 7
       have rc8 : w3.cell? ⟨w.heap.size + 1, 8, none⟩ = some (.int .i64 0) := hR3.cell 8
       have rf8 : w3.frozen? ⟨w.heap.size + 1, 8, none⟩ = false := hR3.frozen 8
       have rc9 : w3.cell? ⟨w.heap.size + 1, 9, none⟩ = some (.int .i64 0) := hR3.cell 9
       have rf9 : w3.frozen? ⟨w.heap.size + 1, 9, none⟩ = false := hR3.frozen 9
       have hk3H := Lib.hid hk3; have hR3H := Lib.hid hR3; clear hk3 hR3))
  (try simp only [Exit.inBlock, Exit.then])
  refine bodyPost_ret (results_cell_row2 rfl _ _ (w.heap.size + 1) 44 _ _ rfl (put10 hR3H.out (.int .i64 n1) (.int .i64 n2) (.string st) (.slice la ln lc) (.int .i64 x0) (.int .i64 x1) (.int .i64 x2) (.int .i64 x3) (.int .i64 x4) (.int .i64 0)) Tryz.underlying44 rfl (by kernel_rfl)) rfl ?_
  exact ⟨rfl, kp_end hH.out hb0H.out hk3H.out (frm10 (Frm.refl _ _) (.inl (by show w.heap.size ≤ w.heap.size + 1 ∧ w.heap.size + 1 < _; have := hR0H.out.lt; omega)) _ _ _ _ _ _ _ _ _ _)⟩
set_option maxRecDepth 100000 in
set_option maxHeartbeats 4000000 in
theorem answer_8 (h : KerIs w B q K M) {pb : Nat} (a b : Int) (s t : ByteArray) (pa : Option Addr) (pn pc : Nat) (n1 n2 : Int) (st : ByteArray) (la : Option Addr) (ln lc : Nat) (x0 x1 x2 x3 x4 er : Int)
    (hin : ∀ W, Below w.heap.size w W → Calls Tryz.prog 91 #[.pointer (some ⟨q, 0, none⟩), .pointer (some ⟨pb, 0, none⟩), .agg #[.int .i64 8, .int .i64 a, .int .i64 b, .string s, .string t, .slice pa pn pc]] W fun e w' => e = .returned (.tuple #[.agg #[.int .i64 n1, .int .i64 n2, .string st, .slice la ln lc, .int .i64 x0, .int .i64 x1, .int .i64 x2, .int .i64 x3, .int .i64 x4, .int .i64 0], .int .i64 er]) ∧ KP (AllX B) W K M w' q K') :
    Calls Tryz.prog 48 #[.pointer (some ⟨q, 0, none⟩), .pointer (some ⟨pb, 0, none⟩), .agg #[.int .i64 8, .int .i64 a, .int .i64 b, .string s, .string t, .slice pa pn pc]] w fun e w' => e = .returned (.tuple #[.agg #[.int .i64 n1, .int .i64 n2, .string st, .slice la ln lc, .int .i64 x0, .int .i64 x1, .int .i64 x2, .int .i64 x3, .int .i64 x4, .int .i64 0], .int .i64 er]) ∧ KP (AllX B) w K M w' q K' := by
  have hinH := Lib.hid hin
  have hH := Lib.hid h
  clear h hin
  go_enter Tryz.func48, Tryz.ntmps48
  go_upto_region 24 with fail
  obtain ⟨W0, hW0⟩ : ∃ W, (w.alloc (.cells #[.int .i64 8, .int .i64 a, .int .i64 b, .string s, .string t, .slice pa pn pc] 34)).alloc (.cells #[.int .i64 0, .int .i64 0, .string ⟨#[]⟩, .slice none 0 0, .int .i64 0, .int .i64 0, .int .i64 0, .int .i64 0, .int .i64 0, .int .i64 0] 44) = W := ⟨_, rfl⟩
  have hb0 : Below w.heap.size w W0 := by rw [← hW0]; exact ((Below.refl _ w).alloc (Nat.le_refl _) _).alloc (by simp) _
  have hC0 : Blk W0 w.heap.size 34 #[.int .i64 8, .int .i64 a, .int .i64 b, .string s, .string t, .slice pa pn pc] := by rw [← hW0]; exact (Blk.new w _ _).alloc _
  have hR0 : Blk W0 (w.heap.size + 1) 44 #[.int .i64 0, .int .i64 0, .string ⟨#[]⟩, .slice none 0 0, .int .i64 0, .int .i64 0, .int .i64 0, .int .i64 0, .int .i64 0, .int .i64 0] := by
    have h := Blk.new (w.alloc (.cells #[.int .i64 8, .int .i64 a, .int .i64 b, .string s, .string t, .slice pa pn pc] 34)) 44 #[.int .i64 0, .int .i64 0, .string ⟨#[]⟩, .slice none 0 0, .int .i64 0, .int .i64 0, .int .i64 0, .int .i64 0, .int .i64 0, .int .i64 0]
    rw [World.size_alloc, hW0] at h
    exact h
  have a0 : W0.cell? ⟨w.heap.size, 0, none⟩ = some (.int .i64 8) := hC0.cell 0
  have a1 : W0.cell? ⟨w.heap.size, 1, none⟩ = some (.int .i64 a) := hC0.cell 1
  have a2 : W0.cell? ⟨w.heap.size, 2, none⟩ = some (.int .i64 b) := hC0.cell 2
  have a3 : W0.cell? ⟨w.heap.size, 3, none⟩ = some (.string s) := hC0.cell 3
  have a4 : W0.cell? ⟨w.heap.size, 4, none⟩ = some (.string t) := hC0.cell 4
  have a5 : W0.cell? ⟨w.heap.size, 5, none⟩ = some (.slice pa pn pc) := hC0.cell 5
  have hb0H := Lib.hid hb0
  have hR0H := Lib.hid hR0
  rw [hW0]
  clear hb0 hC0 hR0 hW0
  go_wp2_with (first
    | (go_at_call 91; refine (hinH.out W0 hb0H.out).mono ?_; rintro e w3 ⟨rfl, hk3⟩
       have hR3 := hR0H.out.keep (kp_keep hH.out hk3 (by omega) hR0H.out.lt)
       have rc0 : w3.cell? ⟨w.heap.size + 1, 0, none⟩ = some (.int .i64 0) := hR3.cell 0
       have rf0 : w3.frozen? ⟨w.heap.size + 1, 0, none⟩ = false := hR3.frozen 0
       have rc1 : w3.cell? ⟨w.heap.size + 1, 1, none⟩ = some (.int .i64 0) := hR3.cell 1
       have rf1 : w3.frozen? ⟨w.heap.size + 1, 1, none⟩ = false := hR3.frozen 1
       have rc2 : w3.cell? ⟨w.heap.size + 1, 2, none⟩ = some (.string ⟨#[]⟩) := hR3.cell 2
       have rf2 : w3.frozen? ⟨w.heap.size + 1, 2, none⟩ = false := hR3.frozen 2
       have rc3 : w3.cell? ⟨w.heap.size + 1, 3, none⟩ = some (.slice none 0 0) := hR3.cell 3
       have rf3 : w3.frozen? ⟨w.heap.size + 1, 3, none⟩ = false := hR3.frozen 3
       have rc4 : w3.cell? ⟨w.heap.size + 1, 4, none⟩ = some (.int .i64 0) := hR3.cell 4
       have rf4 : w3.frozen? ⟨w.heap.size + 1, 4, none⟩ = false := hR3.frozen 4
       have rc5 : w3.cell? ⟨w.heap.size + 1, 5, none⟩ = some (.int .i64 0) := hR3.cell 5
       have rf5 : w3.frozen? ⟨w.heap.size + 1, 5, none⟩ = false := hR3.frozen 5
       have rc6 : w3.cell? ⟨w.heap.size + 1, 6, none⟩ = some (.int .i64 0) := hR3.cell 6
       have rf6 : w3.frozen? ⟨w.heap.size + 1, 6, none⟩ = false := hR3.frozen 6
       have rc7 : w3.cell? ⟨w.heap.size + 1, 7, none⟩ = some (.int .i64 0) := hR3.cell 7
       have rf7 : w3.frozen? ⟨w.heap.size + 1, 7, none⟩ = false := hR3.frozen 7
       have rc8 : w3.cell? ⟨w.heap.size + 1, 8, none⟩ = some (.int .i64 0) := hR3.cell 8
       have rf8 : w3.frozen? ⟨w.heap.size + 1, 8, none⟩ = false := hR3.frozen 8
       have rc9 : w3.cell? ⟨w.heap.size + 1, 9, none⟩ = some (.int .i64 0) := hR3.cell 9
       have rf9 : w3.frozen? ⟨w.heap.size + 1, 9, none⟩ = false := hR3.frozen 9
       have hk3H := Lib.hid hk3; have hR3H := Lib.hid hR3; clear hk3 hR3))
  (try simp only [Exit.inBlock, Exit.then])
  refine bodyPost_ret (results_cell_row2 rfl _ _ (w.heap.size + 1) 44 _ _ rfl (put10 hR3H.out (.int .i64 n1) (.int .i64 n2) (.string st) (.slice la ln lc) (.int .i64 x0) (.int .i64 x1) (.int .i64 x2) (.int .i64 x3) (.int .i64 x4) (.int .i64 0)) Tryz.underlying44 rfl (by kernel_rfl)) rfl ?_
  exact ⟨rfl, kp_end hH.out hb0H.out hk3H.out (frm10 (Frm.refl _ _) (.inl (by show w.heap.size ≤ w.heap.size + 1 ∧ w.heap.size + 1 < _; have := hR0H.out.lt; omega)) _ _ _ _ _ _ _ _ _ _)⟩
end
end Go.Proofs.YtmilagppbepnbaaGreat.Kn
/- The kernel's Call, whatever waits and answer say. Condition: the kernel lies as stated. -/
namespace Go.Proofs.YtmilagppbepnbaaGreat.Kn
open Go.RowKit Go.PlainAid
set_option linter.unusedVariables false
set_option linter.unusedSimpArgs false
attribute [local go_sem] Oper.semAt_some
section
variable {w w' w3 w4 : World} {B : Ix → Nat → Prop} {q : Nat} {K K' : Ker} {M : Mp} {c : Nat}
theorem process_w (h : KerIs w B q K M) {pid : Int} {n : Nat} (hl : liveM K pid = some n) (W : World) (hW : Below w.heap.size w W) : Calls Tryz.prog 46 #[.pointer (some ⟨q, 0, none⟩), .int .i64 pid] W fun e w' => e = .returned (.pointer (some ⟨M.br n, 0, none⟩)) ∧ Below W.heap.size W w' := by
  have := process_any (h.below hW) pid
  rw [hl] at this
  exact this
set_option maxRecDepth 100000 in
set_option maxHeartbeats 4000000 in
theorem call_waits (h : KerIs w B q K M) {pid : Int} {n : Nat} (hl : liveM K pid = some n) (no a b : Int) (s t : ByteArray) (pa : Option Addr) (pn pc : Nat)
    (hwt : ∀ W, Below w.heap.size w W → Calls Tryz.prog 47 #[.pointer (some ⟨q, 0, none⟩), .pointer (some ⟨M.br n, 0, none⟩), .agg #[.int .i64 no, .int .i64 a, .int .i64 b, .string s, .string t, .slice pa pn pc]] W fun e w' => e = .returned (.bool true) ∧ Below W.heap.size W w') :
    Calls Tryz.prog 15 #[.pointer (some ⟨q, 0, none⟩), .int .i64 pid, .agg #[.int .i64 no, .int .i64 a, .int .i64 b, .string s, .string t, .slice pa pn pc]] w fun e w' => e = .returned (.tuple #[.agg #[.int .i64 0, .int .i64 0, .string ⟨#[]⟩, .slice none 0 0, .int .i64 0, .int .i64 0, .int .i64 0, .int .i64 0, .int .i64 0, .int .i64 0], .bool true]) ∧ Below w.heap.size w w' := by
  have hwtH := Lib.hid hwt
  have hpr := Lib.hid (process_w h hl)
  obtain ⟨b9, hb9⟩ : ∃ b9, M.br n = b9 := ⟨_, rfl⟩
  rw [hb9] at hpr hwtH
  clear h hb9 hl hwt
  go_enter Tryz.func15, Tryz.ntmps15
  go_upto_region 1 with fail
  obtain ⟨W0, hW0⟩ : ∃ W, (w.alloc (.cells #[.int .i64 no, .int .i64 a, .int .i64 b, .string s, .string t, .slice pa pn pc] 34)).alloc (.cells #[.int .i64 0, .int .i64 0, .string ⟨#[]⟩, .slice none 0 0, .int .i64 0, .int .i64 0, .int .i64 0, .int .i64 0, .int .i64 0, .int .i64 0] 44) = W := ⟨_, rfl⟩
  have hb0 : Below w.heap.size w W0 := by rw [← hW0]; exact ((Below.refl _ w).alloc (Nat.le_refl _) _).alloc (by simp) _
  have hC0 : Blk W0 w.heap.size 34 #[.int .i64 no, .int .i64 a, .int .i64 b, .string s, .string t, .slice pa pn pc] := by rw [← hW0]; exact (Blk.new w _ _).alloc _
  have hR0 : Blk W0 (w.heap.size + 1) 44 #[.int .i64 0, .int .i64 0, .string ⟨#[]⟩, .slice none 0 0, .int .i64 0, .int .i64 0, .int .i64 0, .int .i64 0, .int .i64 0, .int .i64 0] := by
    have h := Blk.new (w.alloc (.cells #[.int .i64 no, .int .i64 a, .int .i64 b, .string s, .string t, .slice pa pn pc] 34)) 44 #[.int .i64 0, .int .i64 0, .string ⟨#[]⟩, .slice none 0 0, .int .i64 0, .int .i64 0, .int .i64 0, .int .i64 0, .int .i64 0, .int .i64 0]
    rw [World.size_alloc, hW0] at h
    exact h
  have hb0H := Lib.hid hb0
  have hC0H := Lib.hid hC0
  have hR0H := Lib.hid hR0
  rw [hW0]
  clear hb0 hC0 hR0 hW0
  go_wp2_with (first
    | (go_at_call 46; refine (hpr.out W0 hb0H.out).mono ?_; rintro e w1 ⟨rfl, hb1⟩
       have hb01 := hb0H.out.trans (hb1.mono hb0H.out.size)
       have hC1 := hC0H.out.keep (hb1.block _ hC0H.out.lt)
       have p0 : w1.cell? ⟨w.heap.size, 0, none⟩ = some (.int .i64 no) := hC1.cell 0
       have p1 : w1.cell? ⟨w.heap.size, 1, none⟩ = some (.int .i64 a) := hC1.cell 1
       have p2 : w1.cell? ⟨w.heap.size, 2, none⟩ = some (.int .i64 b) := hC1.cell 2
       have p3 : w1.cell? ⟨w.heap.size, 3, none⟩ = some (.string s) := hC1.cell 3
       have p4 : w1.cell? ⟨w.heap.size, 4, none⟩ = some (.string t) := hC1.cell 4
       have p5 : w1.cell? ⟨w.heap.size, 5, none⟩ = some (.slice pa pn pc) := hC1.cell 5
       have hR1 := Lib.hid (hR0H.out.keep (hb1.block _ hR0H.out.lt))
       have hb01H := Lib.hid hb01; have hC1H := Lib.hid hC1; clear hb1 hb01 hC1)
    | (go_at_call 47; refine (hwtH.out w1 hb01H.out).mono ?_; rintro e w2 ⟨rfl, hb2⟩
       have hb02 := hb01H.out.trans (hb2.mono hb01H.out.size)
       have hC2 := hC1H.out.keep (hb2.block _ hC1H.out.lt)
       have y0 : w2.cell? ⟨w.heap.size, 0, none⟩ = some (.int .i64 no) := hC2.cell 0
       have y1 : w2.cell? ⟨w.heap.size, 1, none⟩ = some (.int .i64 a) := hC2.cell 1
       have y2 : w2.cell? ⟨w.heap.size, 2, none⟩ = some (.int .i64 b) := hC2.cell 2
       have y3 : w2.cell? ⟨w.heap.size, 3, none⟩ = some (.string s) := hC2.cell 3
       have y4 : w2.cell? ⟨w.heap.size, 4, none⟩ = some (.string t) := hC2.cell 4
       have y5 : w2.cell? ⟨w.heap.size, 5, none⟩ = some (.slice pa pn pc) := hC2.cell 5
       have hR2 := hR1.out.keep (hb2.block _ hR1.out.lt)
       have rc0 : w2.cell? ⟨w.heap.size + 1, 0, none⟩ = some (.int .i64 0) := hR2.cell 0
       have rf0 : w2.frozen? ⟨w.heap.size + 1, 0, none⟩ = false := hR2.frozen 0
       have rc1 : w2.cell? ⟨w.heap.size + 1, 1, none⟩ = some (.int .i64 0) := hR2.cell 1
       have rf1 : w2.frozen? ⟨w.heap.size + 1, 1, none⟩ = false := hR2.frozen 1
       have rc2 : w2.cell? ⟨w.heap.size + 1, 2, none⟩ = some (.string ⟨#[]⟩) := hR2.cell 2
       have rf2 : w2.frozen? ⟨w.heap.size + 1, 2, none⟩ = false := hR2.frozen 2
       have rc3 : w2.cell? ⟨w.heap.size + 1, 3, none⟩ = some (.slice none 0 0) := hR2.cell 3
       have rf3 : w2.frozen? ⟨w.heap.size + 1, 3, none⟩ = false := hR2.frozen 3
       have rc4 : w2.cell? ⟨w.heap.size + 1, 4, none⟩ = some (.int .i64 0) := hR2.cell 4
       have rf4 : w2.frozen? ⟨w.heap.size + 1, 4, none⟩ = false := hR2.frozen 4
       have rc5 : w2.cell? ⟨w.heap.size + 1, 5, none⟩ = some (.int .i64 0) := hR2.cell 5
       have rf5 : w2.frozen? ⟨w.heap.size + 1, 5, none⟩ = false := hR2.frozen 5
       have rc6 : w2.cell? ⟨w.heap.size + 1, 6, none⟩ = some (.int .i64 0) := hR2.cell 6
       have rf6 : w2.frozen? ⟨w.heap.size + 1, 6, none⟩ = false := hR2.frozen 6
       have rc7 : w2.cell? ⟨w.heap.size + 1, 7, none⟩ = some (.int .i64 0) := hR2.cell 7
       have rf7 : w2.frozen? ⟨w.heap.size + 1, 7, none⟩ = false := hR2.frozen 7
       have rc8 : w2.cell? ⟨w.heap.size + 1, 8, none⟩ = some (.int .i64 0) := hR2.cell 8
       have rf8 : w2.frozen? ⟨w.heap.size + 1, 8, none⟩ = false := hR2.frozen 8
       have rc9 : w2.cell? ⟨w.heap.size + 1, 9, none⟩ = some (.int .i64 0) := hR2.cell 9
       have rf9 : w2.frozen? ⟨w.heap.size + 1, 9, none⟩ = false := hR2.frozen 9
       have hb02H := Lib.hid hb02; have hR2H := Lib.hid hR2; clear hb2 hb02 hC2 hR2))
  (try simp only [Exit.inBlock, Exit.then])
  refine bodyPost_ret (results_cell_row2 rfl _ _ (w.heap.size + 1) 44 _ _ rfl (put10 hR2H.out (.int .i64 0) (.int .i64 0) (.string ⟨#[]⟩) (.slice none 0 0) (.int .i64 0) (.int .i64 0) (.int .i64 0) (.int .i64 0) (.int .i64 0) (.int .i64 0)) Tryz.underlying44 rfl (by kernel_rfl)) rfl ?_
  exact ⟨rfl, hb02H.out.trans ((frm10 (O := fun g => w.heap.size ≤ g) (Frm.refl _ _) (.inl (by omega)) _ _ _ _ _ _ _ _ _ _).toBelow (fun _ h => h) hb02H.out.size)⟩
set_option maxRecDepth 100000 in
set_option maxHeartbeats 4000000 in
theorem call_nobody {k : Value} (pid no a b : Int) (s t : ByteArray) (pa : Option Addr) (pn pc : Nat) (w : World)
    (hpr : ∀ W, Below w.heap.size w W → Calls Tryz.prog 46 #[k, .int .i64 pid] W fun e w' => e = .returned (.pointer none) ∧ Below W.heap.size W w') :
    Calls Tryz.prog 15 #[k, .int .i64 pid, .agg #[.int .i64 no, .int .i64 a, .int .i64 b, .string s, .string t, .slice pa pn pc]] w fun e w' => e = .returned (.tuple #[.agg #[.int .i64 0, .int .i64 0, .string ⟨#[]⟩, .slice none 0 0, .int .i64 0, .int .i64 0, .int .i64 0, .int .i64 0, .int .i64 0, .int .i64 3], .bool false]) ∧ Below w.heap.size w w' := by
  have hprH := Lib.hid hpr
  clear hpr
  go_enter Tryz.func15, Tryz.ntmps15
  go_upto_region 1 with fail
  obtain ⟨W0, hW0⟩ : ∃ W, (w.alloc (.cells #[.int .i64 no, .int .i64 a, .int .i64 b, .string s, .string t, .slice pa pn pc] 34)).alloc (.cells #[.int .i64 0, .int .i64 0, .string ⟨#[]⟩, .slice none 0 0, .int .i64 0, .int .i64 0, .int .i64 0, .int .i64 0, .int .i64 0, .int .i64 0] 44) = W := ⟨_, rfl⟩
  have hb0 : Below w.heap.size w W0 := by rw [← hW0]; exact ((Below.refl _ w).alloc (Nat.le_refl _) _).alloc (by simp) _
  have hR0 : Blk W0 (w.heap.size + 1) 44 #[.int .i64 0, .int .i64 0, .string ⟨#[]⟩, .slice none 0 0, .int .i64 0, .int .i64 0, .int .i64 0, .int .i64 0, .int .i64 0, .int .i64 0] := by
    have h := Blk.new (w.alloc (.cells #[.int .i64 no, .int .i64 a, .int .i64 b, .string s, .string t, .slice pa pn pc] 34)) 44 #[.int .i64 0, .int .i64 0, .string ⟨#[]⟩, .slice none 0 0, .int .i64 0, .int .i64 0, .int .i64 0, .int .i64 0, .int .i64 0, .int .i64 0]
    rw [World.size_alloc, hW0] at h
    exact h
  have hb0H := Lib.hid hb0
  have hR0H := Lib.hid hR0
  rw [hW0]
  clear hb0 hR0 hW0
  go_wp2_with (first
    | (go_at_call 46; refine (hprH.out W0 hb0H.out).mono ?_; rintro e w1 ⟨rfl, hb1⟩
       have hb01 := hb0H.out.trans (hb1.mono hb0H.out.size)
       have hR2 := hR0H.out.keep (hb1.block _ hR0H.out.lt)
       have rc0 : w1.cell? ⟨w.heap.size + 1, 0, none⟩ = some (.int .i64 0) := hR2.cell 0
       have rf0 : w1.frozen? ⟨w.heap.size + 1, 0, none⟩ = false := hR2.frozen 0
       have rc1 : w1.cell? ⟨w.heap.size + 1, 1, none⟩ = some (.int .i64 0) := hR2.cell 1
       have rf1 : w1.frozen? ⟨w.heap.size + 1, 1, none⟩ = false := hR2.frozen 1
       have rc2 : w1.cell? ⟨w.heap.size + 1, 2, none⟩ = some (.string ⟨#[]⟩) := hR2.cell 2
       have rf2 : w1.frozen? ⟨w.heap.size + 1, 2, none⟩ = false := hR2.frozen 2
       have rc3 : w1.cell? ⟨w.heap.size + 1, 3, none⟩ = some (.slice none 0 0) := hR2.cell 3
       have rf3 : w1.frozen? ⟨w.heap.size + 1, 3, none⟩ = false := hR2.frozen 3
       have rc4 : w1.cell? ⟨w.heap.size + 1, 4, none⟩ = some (.int .i64 0) := hR2.cell 4
       have rf4 : w1.frozen? ⟨w.heap.size + 1, 4, none⟩ = false := hR2.frozen 4
       have rc5 : w1.cell? ⟨w.heap.size + 1, 5, none⟩ = some (.int .i64 0) := hR2.cell 5
       have rf5 : w1.frozen? ⟨w.heap.size + 1, 5, none⟩ = false := hR2.frozen 5
       have rc6 : w1.cell? ⟨w.heap.size + 1, 6, none⟩ = some (.int .i64 0) := hR2.cell 6
       have rf6 : w1.frozen? ⟨w.heap.size + 1, 6, none⟩ = false := hR2.frozen 6
       have rc7 : w1.cell? ⟨w.heap.size + 1, 7, none⟩ = some (.int .i64 0) := hR2.cell 7
       have rf7 : w1.frozen? ⟨w.heap.size + 1, 7, none⟩ = false := hR2.frozen 7
       have rc8 : w1.cell? ⟨w.heap.size + 1, 8, none⟩ = some (.int .i64 0) := hR2.cell 8
       have rf8 : w1.frozen? ⟨w.heap.size + 1, 8, none⟩ = false := hR2.frozen 8
       have rc9 : w1.cell? ⟨w.heap.size + 1, 9, none⟩ = some (.int .i64 0) := hR2.cell 9
       have rf9 : w1.frozen? ⟨w.heap.size + 1, 9, none⟩ = false := hR2.frozen 9
       have hb02H := Lib.hid hb01; have hR2H := Lib.hid hR2; clear hb1 hb01 hR2))
  (try simp only [Exit.inBlock, Exit.then])
  refine bodyPost_ret (results_cell_row2 rfl _ _ (w.heap.size + 1) 44 _ _ rfl (put10 hR2H.out (.int .i64 0) (.int .i64 0) (.string ⟨#[]⟩) (.slice none 0 0) (.int .i64 0) (.int .i64 0) (.int .i64 0) (.int .i64 0) (.int .i64 0) (.int .i64 3)) Tryz.underlying44 rfl (by kernel_rfl)) rfl ?_
  exact ⟨rfl, hb02H.out.trans ((frm10 (O := fun g => w.heap.size ≤ g) (Frm.refl _ _) (.inl (by omega)) _ _ _ _ _ _ _ _ _ _).toBelow (fun _ h => h) hb02H.out.size)⟩
set_option maxRecDepth 100000 in
set_option maxHeartbeats 4000000 in
theorem call_ok (h : KerIs w B q K M) {pid : Int} {n : Nat} (hl : liveM K pid = some n) (no a b : Int) (s t : ByteArray) (pa : Option Addr) (pn pc : Nat) (n1 n2 : Int) (st : ByteArray) (la : Option Addr) (ln lc : Nat) (x0 x1 x2 x3 x4 : Int)
    (hwt : ∀ W, Below w.heap.size w W → Calls Tryz.prog 47 #[.pointer (some ⟨q, 0, none⟩), .pointer (some ⟨M.br n, 0, none⟩), .agg #[.int .i64 no, .int .i64 a, .int .i64 b, .string s, .string t, .slice pa pn pc]] W fun e w' => e = .returned (.bool false) ∧ Below W.heap.size W w')
    (han : ∀ W, Below w.heap.size w W → Calls Tryz.prog 48 #[.pointer (some ⟨q, 0, none⟩), .pointer (some ⟨M.br n, 0, none⟩), .agg #[.int .i64 no, .int .i64 a, .int .i64 b, .string s, .string t, .slice pa pn pc]] W fun e w' => e = .returned (.tuple #[.agg #[.int .i64 n1, .int .i64 n2, .string st, .slice la ln lc, .int .i64 x0, .int .i64 x1, .int .i64 x2, .int .i64 x3, .int .i64 x4, .int .i64 0], .int .i64 0]) ∧ KP (AllX B) W K M w' q K') :
    Calls Tryz.prog 15 #[.pointer (some ⟨q, 0, none⟩), .int .i64 pid, .agg #[.int .i64 no, .int .i64 a, .int .i64 b, .string s, .string t, .slice pa pn pc]] w fun e w' => e = .returned (.tuple #[.agg #[.int .i64 n1, .int .i64 n2, .string st, .slice la ln lc, .int .i64 x0, .int .i64 x1, .int .i64 x2, .int .i64 x3, .int .i64 x4, .int .i64 0], .bool false]) ∧ KP (AllX B) w K M w' q K' := by
  have hwtH := Lib.hid hwt
  have hanH := Lib.hid han
  have hH := Lib.hid h
  have hpr := Lib.hid (process_w h hl)
  obtain ⟨b9, hb9⟩ : ∃ b9, M.br n = b9 := ⟨_, rfl⟩
  rw [hb9] at hpr hwtH hanH
  clear h hb9 hl hwt han
  go_enter Tryz.func15, Tryz.ntmps15
  go_upto_region 1 with fail
  obtain ⟨W0, hW0⟩ : ∃ W, (w.alloc (.cells #[.int .i64 no, .int .i64 a, .int .i64 b, .string s, .string t, .slice pa pn pc] 34)).alloc (.cells #[.int .i64 0, .int .i64 0, .string ⟨#[]⟩, .slice none 0 0, .int .i64 0, .int .i64 0, .int .i64 0, .int .i64 0, .int .i64 0, .int .i64 0] 44) = W := ⟨_, rfl⟩
  have hb0 : Below w.heap.size w W0 := by rw [← hW0]; exact ((Below.refl _ w).alloc (Nat.le_refl _) _).alloc (by simp) _
  have hC0 : Blk W0 w.heap.size 34 #[.int .i64 no, .int .i64 a, .int .i64 b, .string s, .string t, .slice pa pn pc] := by rw [← hW0]; exact (Blk.new w _ _).alloc _
  have hR0 : Blk W0 (w.heap.size + 1) 44 #[.int .i64 0, .int .i64 0, .string ⟨#[]⟩, .slice none 0 0, .int .i64 0, .int .i64 0, .int .i64 0, .int .i64 0, .int .i64 0, .int .i64 0] := by
    have h := Blk.new (w.alloc (.cells #[.int .i64 no, .int .i64 a, .int .i64 b, .string s, .string t, .slice pa pn pc] 34)) 44 #[.int .i64 0, .int .i64 0, .string ⟨#[]⟩, .slice none 0 0, .int .i64 0, .int .i64 0, .int .i64 0, .int .i64 0, .int .i64 0, .int .i64 0]
    rw [World.size_alloc, hW0] at h
    exact h
  have hb0H := Lib.hid hb0
  have hC0H := Lib.hid hC0
  have hR0H := Lib.hid hR0
  rw [hW0]
  clear hb0 hC0 hR0 hW0
  go_upto_region 7 with (first
    | (go_at_call 46; refine (hpr.out W0 hb0H.out).mono ?_; rintro e w1 ⟨rfl, hb1⟩
       have hb01 := hb0H.out.trans (hb1.mono hb0H.out.size)
       have hC1 := hC0H.out.keep (hb1.block _ hC0H.out.lt)
       have p0 : w1.cell? ⟨w.heap.size, 0, none⟩ = some (.int .i64 no) := hC1.cell 0
       have p1 : w1.cell? ⟨w.heap.size, 1, none⟩ = some (.int .i64 a) := hC1.cell 1
       have p2 : w1.cell? ⟨w.heap.size, 2, none⟩ = some (.int .i64 b) := hC1.cell 2
       have p3 : w1.cell? ⟨w.heap.size, 3, none⟩ = some (.string s) := hC1.cell 3
       have p4 : w1.cell? ⟨w.heap.size, 4, none⟩ = some (.string t) := hC1.cell 4
       have p5 : w1.cell? ⟨w.heap.size, 5, none⟩ = some (.slice pa pn pc) := hC1.cell 5
       have hR1 := Lib.hid (hR0H.out.keep (hb1.block _ hR0H.out.lt))
       have hb01H := Lib.hid hb01; have hC1H := Lib.hid hC1; clear hb1 hb01 hC1)
    | (go_at_call 47; refine (hwtH.out w1 hb01H.out).mono ?_; rintro e w2 ⟨rfl, hb2⟩
       have hb02 := hb01H.out.trans (hb2.mono hb01H.out.size)
       have hC2 := hC1H.out.keep (hb2.block _ hC1H.out.lt)
       have y0 : w2.cell? ⟨w.heap.size, 0, none⟩ = some (.int .i64 no) := hC2.cell 0
       have y1 : w2.cell? ⟨w.heap.size, 1, none⟩ = some (.int .i64 a) := hC2.cell 1
       have y2 : w2.cell? ⟨w.heap.size, 2, none⟩ = some (.int .i64 b) := hC2.cell 2
       have y3 : w2.cell? ⟨w.heap.size, 3, none⟩ = some (.string s) := hC2.cell 3
       have y4 : w2.cell? ⟨w.heap.size, 4, none⟩ = some (.string t) := hC2.cell 4
       have y5 : w2.cell? ⟨w.heap.size, 5, none⟩ = some (.slice pa pn pc) := hC2.cell 5
       have hR2 := hR1.out.keep (hb2.block _ hR1.out.lt)
       have hb02H := Lib.hid hb02; have hR2H := Lib.hid hR2; clear hb2 hb02 hC2 hR2)
    | (go_at_call 48; refine (hanH.out w2 hb02H.out).mono ?_; rintro e w3 ⟨rfl, hk3⟩
       have hR3 := hR2H.out.keep (kp_keep hH.out hk3 (by omega) hR2H.out.lt)
       have hk3H := Lib.hid hk3; have hR3H := Lib.hid hR3; clear hk3 hR3))
  clear p0 p1 p2 p3 p4 p5 y0 y1 y2 y3 y4 y5
  obtain ⟨m3, hm3⟩ : ∃ m, w3.heap.size = m := ⟨_, rfl⟩
  obtain ⟨W4, hW4⟩ : ∃ W, w3.alloc (.cells #[.int .i64 n1, .int .i64 n2, .string st, .slice la ln lc, .int .i64 x0, .int .i64 x1, .int .i64 x2, .int .i64 x3, .int .i64 x4, .int .i64 0] 44) = W := ⟨_, rfl⟩
  have hb4 : Below w3.heap.size w3 W4 := by
    rw [← hW4]
    exact (Below.refl _ _).alloc (Nat.le_refl _) _
  have hT4 : Blk W4 w3.heap.size 44 #[.int .i64 n1, .int .i64 n2, .string st, .slice la ln lc, .int .i64 x0, .int .i64 x1, .int .i64 x2, .int .i64 x3, .int .i64 x4, .int .i64 0] := by
    rw [← hW4]
    exact Blk.new w3 _ _
  rw [hm3] at hT4
  have hR4 := hR3H.out.keep (hb4.block _ hR3H.out.lt)
  have rc0 : W4.cell? ⟨w.heap.size + 1, 0, none⟩ = some (.int .i64 0) := hR4.cell 0
  have rf0 : W4.frozen? ⟨w.heap.size + 1, 0, none⟩ = false := hR4.frozen 0
  have rc1 : W4.cell? ⟨w.heap.size + 1, 1, none⟩ = some (.int .i64 0) := hR4.cell 1
  have rf1 : W4.frozen? ⟨w.heap.size + 1, 1, none⟩ = false := hR4.frozen 1
  have rc2 : W4.cell? ⟨w.heap.size + 1, 2, none⟩ = some (.string ⟨#[]⟩) := hR4.cell 2
  have rf2 : W4.frozen? ⟨w.heap.size + 1, 2, none⟩ = false := hR4.frozen 2
  have rc3 : W4.cell? ⟨w.heap.size + 1, 3, none⟩ = some (.slice none 0 0) := hR4.cell 3
  have rf3 : W4.frozen? ⟨w.heap.size + 1, 3, none⟩ = false := hR4.frozen 3
  have rc4 : W4.cell? ⟨w.heap.size + 1, 4, none⟩ = some (.int .i64 0) := hR4.cell 4
  have rf4 : W4.frozen? ⟨w.heap.size + 1, 4, none⟩ = false := hR4.frozen 4
  have rc5 : W4.cell? ⟨w.heap.size + 1, 5, none⟩ = some (.int .i64 0) := hR4.cell 5
  have rf5 : W4.frozen? ⟨w.heap.size + 1, 5, none⟩ = false := hR4.frozen 5
  have rc6 : W4.cell? ⟨w.heap.size + 1, 6, none⟩ = some (.int .i64 0) := hR4.cell 6
  have rf6 : W4.frozen? ⟨w.heap.size + 1, 6, none⟩ = false := hR4.frozen 6
  have rc7 : W4.cell? ⟨w.heap.size + 1, 7, none⟩ = some (.int .i64 0) := hR4.cell 7
  have rf7 : W4.frozen? ⟨w.heap.size + 1, 7, none⟩ = false := hR4.frozen 7
  have rc8 : W4.cell? ⟨w.heap.size + 1, 8, none⟩ = some (.int .i64 0) := hR4.cell 8
  have rf8 : W4.frozen? ⟨w.heap.size + 1, 8, none⟩ = false := hR4.frozen 8
  have rc9 : W4.cell? ⟨w.heap.size + 1, 9, none⟩ = some (.int .i64 0) := hR4.cell 9
  have rf9 : W4.frozen? ⟨w.heap.size + 1, 9, none⟩ = false := hR4.frozen 9
  have tc0 : W4.cell? ⟨m3, 0, none⟩ = some (.int .i64 n1) := hT4.cell 0
  have tc1 : W4.cell? ⟨m3, 1, none⟩ = some (.int .i64 n2) := hT4.cell 1
  have tc2 : W4.cell? ⟨m3, 2, none⟩ = some (.string st) := hT4.cell 2
  have tc3 : W4.cell? ⟨m3, 3, none⟩ = some (.slice la ln lc) := hT4.cell 3
  have tc4 : W4.cell? ⟨m3, 4, none⟩ = some (.int .i64 x0) := hT4.cell 4
  have tc5 : W4.cell? ⟨m3, 5, none⟩ = some (.int .i64 x1) := hT4.cell 5
  have tc6 : W4.cell? ⟨m3, 6, none⟩ = some (.int .i64 x2) := hT4.cell 6
  have tc7 : W4.cell? ⟨m3, 7, none⟩ = some (.int .i64 x3) := hT4.cell 7
  have tc8 : W4.cell? ⟨m3, 8, none⟩ = some (.int .i64 x4) := hT4.cell 8
  have tc9 : W4.cell? ⟨m3, 9, none⟩ = some (.int .i64 0) := hT4.cell 9
  have hb4H := Lib.hid hb4
  have hR4H := Lib.hid hR4
  rw [hW4, hm3]
  clear hW4 hb4 hT4 hR4 hm3
  go_wp2_with fail
  (try simp only [Exit.inBlock, Exit.then])
  refine bodyPost_ret (results_cell_row2 rfl _ _ (w.heap.size + 1) 44 _ _ rfl (put10 hR4H.out (.int .i64 n1) (.int .i64 n2) (.string st) (.slice la ln lc) (.int .i64 x0) (.int .i64 x1) (.int .i64 x2) (.int .i64 x3) (.int .i64 x4) (.int .i64 0)) Tryz.underlying44 rfl (by kernel_rfl)) rfl ?_
  exact ⟨rfl, kp_end hH.out hb02H.out hk3H.out ((Frm.of_below hb4H.out).trans (O1 := fun g => w.heap.size ≤ g ∧ g < w2.heap.size) (fun g hg => .inl hg) (frm10 (Frm.refl _ _) (.inl ⟨by omega, hR2H.out.lt⟩) _ _ _ _ _ _ _ _ _ _))⟩
end
end Go.Proofs.YtmilagppbepnbaaGreat.Kn
/- The kernel: fork. Condition: the kernel lies as stated; what the process's descriptors name is there. -/
namespace Go.Proofs.YtmilagppbepnbaaGreat.Kn
open Go.RowKit Go.PlainAid
set_option linter.unusedVariables false
set_option linter.unusedSimpArgs false
attribute [local go_sem] Oper.semAt_some
section
variable {w w' : World} {B : Ix → Nat → Prop} {q : Nat} {K K' : Ker} {M : Mp} {c : Nat}
set_option maxRecDepth 100000 in
set_option maxHeartbeats 4000000 in
theorem fork_full (h : KerIs w B q K M) (p : Value) (hl : 24 ≤ K.procs.length) :
    Calls Tryz.prog 158 #[.pointer (some ⟨q, 0, none⟩), p] w fun e w' => e = .returned (.tuple #[.int .i64 0, .int .i64 11]) ∧ Below w.heap.size w w' := by
  obtain ⟨W0, hW0⟩ : ∃ W, w.alloc (.cells #[.pointer (some ⟨q, 0, none⟩)] 25) = W := ⟨_, rfl⟩
  have hb0 : Below w.heap.size w W0 := by rw [← hW0]; exact (Below.refl _ _).alloc (Nat.le_refl _) _
  have hX0 : Blk W0 w.heap.size 25 #[.pointer (some ⟨q, 0, none⟩)] := by rw [← hW0]; exact Blk.new _ _ _
  have hcn := Lib.hid (countR_any (h.below hb0))
  have x0 : W0.cell? ⟨w.heap.size, 0, none⟩ = some (.pointer (some ⟨q, 0, none⟩)) := hX0.cell 0
  obtain ⟨l, hll⟩ : ∃ l, K.procs.length = l := ⟨_, rfl⟩
  rw [hll] at hcn hl
  have d1 : (24 : Int) ≤ (l : Int) := by omega
  have hb0H := Lib.hid hb0
  have hW0H := Lib.hid hW0
  clear h hb0 hX0 hll hl hW0
  go_enter Tryz.func158, Tryz.ntmps158
  go_upto_region 1 with fail
  rw [hW0H.out]
  go_wp2_with (go_at_call 224; refine hcn.out.mono ?_; rintro e w' ⟨rfl, hwq⟩; obtain rfl := hwq.symm)
  go_ret2
  exact ⟨rfl, hb0H.out⟩
/-- What the range holds: the kernel with some names more; the child, its table. -/
structure Kid (w0 : World) (B : Ix → Nat → Prop) (q : Nat) (K : Ker) (M : Mp) (P : Prc) (x cb tc n0 : Nat) (pre : List (Fin 32 × Int)) (X : World) : Prop where
  is_ : KerIs X B q (incL K pre) M
  frm : Frm (AllX B) w0 X
  box : Blk X x 25 #[.pointer (some ⟨q, 0, none⟩)]
  kid : Blk X cb 84 #[.int .i64 0, .int .i64 P.num, .pointer (some ⟨tc, 0, none⟩), .int .i64 P.dir, .int .i64 P.mask, .bool false, .int .i64 0]
  tab : Pp.TabAt X tc P.tab
  lo : w0.heap.size ≤ x ∧ w0.heap.size ≤ cb ∧ w0.heap.size ≤ tc ∧ cb ≠ tc ∧ x < n0 ∧ cb < n0 ∧ tc < n0 ∧ w0.heap.size ≤ n0 ∧ n0 ≤ X.heap.size
  old : ∀ i g, B i g → g < w0.heap.size
theorem Kid.go {w0 X Y : World} {P : Prc} {x cb tc n0 : Nat} {pre : List (Fin 32 × Int)} (h : Kid w0 B q K M P x cb tc n0 pre X) (hb : Below n0 X Y) : Kid w0 B q K M P x cb tc n0 pre Y := by
  obtain ⟨l1, l2, l3, l4, l5, l6, l7, l8, l9⟩ := h.lo
  have hs := hb.size
  refine ⟨h.is_.keep hs (fun i g hg => hb.block g (by have := h.old i g hg; omega)), ⟨hb.os.trans h.frm.os, hb.tape.trans h.frm.tape, hb.output.trans h.frm.output, by have := h.frm.size; omega, fun g h1 h2 => (hb.block g (by omega)).trans (h.frm.block g h1 h2)⟩, h.box.keep (hb.block _ l5), h.kid.keep (hb.block _ l6), h.tab.keep (hb.block _ l7), ⟨l1, l2, l3, l4, l5, l6, l7, l8, by omega⟩, h.old⟩
set_option maxRecDepth 100000 in
set_option maxHeartbeats 8000000 in
theorem fork_in (nn : Nat) (hnn : 5 ≤ nn) (h : KerIs w B q K M) (hw : WF c K.fs) (hc : c ≤ 5000) {n : Nat} {P : Prc} (hP : ask K.procs n = some P) (hl : K.procs.length < 24) (hlast : K.lastR < 90000)
    (hok : ∀ i, i < 32 → (P.tab i).tk = true → ∃ m : Nat, (P.tab i).x = m ∧ ∃ D, ask K.descs m = some D ∧ -1000000 ≤ D.refs ∧ D.refs ≤ 900000) :
    CallsIn Fence.wide nn Tryz.prog 158 #[.pointer (some ⟨q, 0, none⟩), .pointer (some ⟨M.br n, 0, none⟩)] w fun e w' => e = .returned (.tuple #[.int .i64 ((K.lastR : Int) + 1), .int .i64 0]) ∧ KP (AllX B) w K M w' q (forkM K P).2.2 := by
  obtain ⟨W0, hW0⟩ : ∃ W, w.alloc (.cells #[.pointer (some ⟨q, 0, none⟩)] 25) = W := ⟨_, rfl⟩
  have hb0 : Below w.heap.size w W0 := by rw [← hW0]; exact (Below.refl _ _).alloc (Nat.le_refl _) _
  have hX0 : Blk W0 w.heap.size 25 #[.pointer (some ⟨q, 0, none⟩)] := by rw [← hW0]; exact Blk.new _ _ _
  have h0 := h.below hb0
  have hcn := Lib.hid (countR_any h0)
  have x0 : W0.cell? ⟨w.heap.size, 0, none⟩ = some (.pointer (some ⟨q, 0, none⟩)) := hX0.cell 0
  obtain ⟨l, hll⟩ : ∃ l, K.procs.length = l := ⟨_, rfl⟩
  have hllH := Lib.hid hll
  rw [hll] at hcn hl
  have d1 : ¬ ((24 : Int) ≤ (l : Int)) := by omega
  obtain ⟨hB, hT, hS1, hS2, hne⟩ : PrcAt W0 (B (.proc n)) (M.br n) (M.bt n) P := h0.part (.proc n) P hP
  obtain ⟨b, hbe⟩ : ∃ b, M.br n = b := ⟨_, rfl⟩
  obtain ⟨tb, htb⟩ : ∃ tb, M.bt n = tb := ⟨_, rfl⟩
  rw [hbe, htb] at hB
  rw [htb] at hT
  rw [hbe]
  have hSS : Hid (∀ Z, Below W0.heap.size W0 Z → Z.cell? ⟨b, 0, none⟩ = some (.int .i64 P.num) ∧ Z.cell? ⟨b, 2, none⟩ = some (.pointer (some ⟨tb, 0, none⟩)) ∧ Z.cell? ⟨b, 3, none⟩ = some (.int .i64 P.dir) ∧ Z.cell? ⟨b, 4, none⟩ = some (.int .i64 P.mask)) := Lib.hid (fun Z hZ => by
    have hB' := hB.keep (hZ.block _ hB.lt)
    exact ⟨hB'.cell 0, hB'.cell 2, hB'.cell 3, hB'.cell 4⟩)
  have hcopy := Lib.hid (Pp.tcopy_any (f := P.tab) W0.drew (hT.keep rfl))
  have hbd : Below W0.heap.size W0 W0.drew := (Below.refl _ _).drew
  have hSd := hSS.out _ hbd
  have hS0 := hSS.out _ (Below.refl _ _)
  have hb0H := Lib.hid hb0
  have hW0H := Lib.hid hW0
  have hX0H := Lib.hid hX0
  have hH := Lib.hid h
  have hPH := Lib.hid hP
  have hwH := Lib.hid hw
  have hokH := Lib.hid hok
  clear h hb0 hX0 hll hW0 hw hP hok h0 hB hT hS1 hS2 hne hbe htb
  refine callsIn_of_wp_marks Tryz.func158 rfl trivial ?_ rfl
  simp only [Tryz.ntmps158, List.size_toArray, List.length_cons, List.length_nil, Nat.reduceAdd, Nat.reduceSub, Array.replicate_succ, Array.replicate_zero, List.push_toArray, List.append_toArray, List.nil_append, List.cons_append]
  refine wpIn_wide.2 ?_
  go_upto_region 1 with fail
  rw [hW0H.out]
  go_upto_region 3 with (go_at_call 224; refine hcn.out.mono ?_; rintro e w' ⟨rfl, hwq⟩; obtain rfl := hwq.symm)
  go_region_held3 (fun Z => Z.cell? ⟨b, 0, none⟩ = some (.int .i64 P.num) ∧ Z.cell? ⟨b, 2, none⟩ = some (.pointer (some ⟨tb, 0, none⟩)) ∧ Z.cell? ⟨b, 3, none⟩ = some (.int .i64 P.dir) ∧ Z.cell? ⟨b, 4, none⟩ = some (.int .i64 P.mask)) (first | exact hS0 | exact hSd | exact hSS.out _ hb2H.out | exact hSS.out _ (hb2H.out.alloc (by have := hb2H.out.size; omega) _) | go_keep | fail)
    ((first | (go_at_call 225; refine hcopy.out.mono ?_; rintro e w2 ⟨rfl, hT2, hb2⟩; have hb2H : Hid (Below W0.heap.size W0 w2) := Lib.hid (hbd.trans hb2); have hT2H := Lib.hid hT2; clear hT2 hb2) | fail))
  go_wp2_with (go_at_call 51; refine (Pp.all_any _ _).mono ?_; rintro e w3 ⟨rfl, rfl⟩)
  obtain ⟨W3, hW3⟩ : ∃ W, (w2.alloc (.cells #[.int .i64 0, .int .i64 P.num, .pointer (some ⟨W0.heap.size, 0, none⟩), .int .i64 P.dir, .int .i64 P.mask, .bool false, .int .i64 0] 84)).alloc (.cells #[.pointer (some ⟨W0.heap.size, 0, none⟩)] 81) = W := ⟨_, rfl⟩
  obtain ⟨x, hx⟩ : ∃ x, w.heap.size = x := ⟨_, rfl⟩
  obtain ⟨tc, htc⟩ : ∃ tc, W0.heap.size = tc := ⟨_, rfl⟩
  obtain ⟨cb, hcb⟩ : ∃ cb, w2.heap.size = cb := ⟨_, rfl⟩
  have hs0 := hX0H.out.lt
  have hs2 : tc ≤ cb := by have := hb2H.out.size; omega
  have hst : tc < cb := by have := hT2H.out.lt; have e : W0.drew.heap.size = W0.heap.size := rfl; omega
  have hb3 : Below w2.heap.size w2 W3 := by rw [← hW3]; exact ((Below.refl _ w2).alloc (Nat.le_refl _) _).alloc (by simp) _
  have hs3 : W3.heap.size = cb + 2 := by rw [← hW3, ← hcb]; simp
  have hC3 : Blk W3 cb 84 #[.int .i64 0, .int .i64 P.num, .pointer (some ⟨tc, 0, none⟩), .int .i64 P.dir, .int .i64 P.mask, .bool false, .int .i64 0] := by rw [← hW3, ← hcb, ← htc]; exact (Blk.new _ _ _).alloc _
  have hI3 : Blk W3 (cb + 1) 81 #[.pointer (some ⟨tc, 0, none⟩)] := by
    have h := Blk.new (w2.alloc (.cells #[.int .i64 0, .int .i64 P.num, .pointer (some ⟨W0.heap.size, 0, none⟩), .int .i64 P.dir, .int .i64 P.mask, .bool false, .int .i64 0] 84)) 81 #[.pointer (some ⟨W0.heap.size, 0, none⟩)]
    rw [World.size_alloc, hW3, hcb, htc] at h
    exact h
  have hT3 : Pp.TabAt W3 tc P.tab := by
    have h := hT2H.out
    have e : W0.drew.heap.size = W0.heap.size := rfl
    rw [e, htc] at h
    exact h.keep (hb3.block _ h.lt)
  have hb03 : Below W0.heap.size W0 W3 := hb2H.out.trans (hb3.mono hb2H.out.size)
  have hbw3 : Below w.heap.size w W3 := hb0H.out.trans (hb03.mono hb0H.out.size)
  have hX3 : Blk W3 x 25 #[.pointer (some ⟨q, 0, none⟩)] := by rw [← hx]; exact hX0H.out.keep (hb03.block _ hX0H.out.lt)
  have hKid : Kid w B q K M P x cb tc (cb + 2) [] W3 := ⟨hH.out.below hbw3, Frm.of_below hbw3, hX3, hC3, hT3, ⟨by omega, by omega, by omega, by omega, by omega, by omega, by omega, by omega, by omega⟩, fun i g hg => hH.out.lt i g hg⟩
  rw [hW3, hx, htc, hcb]
  have hxH := Lib.hid hx
  have hI30 := hI3.cell 0
  clear hW3 hx htc hcb hC3 hX3 hSS hcopy hbd hSd hS0 hb0H hW0H hX0H x0 hb2H hT2H hb3 hb03 hbw3 hcn
  have hdecide : Hid (∀ (y : Fin 32 × Int), (P.tab y.1.1).tk = true → y.2 = (P.tab y.1.1).x → ∃ m : Nat, y.2 = m ∧ ∃ D, ask K.descs m = some D ∧ -1000000 ≤ D.refs ∧ D.refs ≤ 900000) := Lib.hid (fun y h1 h2 => by
    obtain ⟨m, hm, hD⟩ := hokH.out y.1.1 y.1.2 h1
    exact ⟨m, h2.trans hm, hD⟩)
  refine (wpIn_wide (n := nn)).1 ?_
  apply Pp.range_law (n := nn) rfl (by omega) (gf := 95) (lb := #[.pointer (some ⟨cb + 1, 0, none⟩)]) rfl trivial (enters_of Tryz.func95 (by kernel_rfl) rfl)
    (Pp.all_x (nn - 1) (by omega) (cb + 1) tc P.tab W3 (by omega) hI30 hT3) (Pp.keepX_b (by omega) (by omega)) (Below.refl _ _) (fun _ => rfl)
    (fun U pre X => Kid w B q K M P x cb tc (cb + 2) pre X ∧ ∀ k ∈ U, cb + 2 ≤ k ∧ k < X.heap.size) (fun _ _ _ _ => False)
    ?abide (fun _ _ _ _ _ _ h _ => h) ⟨hKid, fun k hk => by cases hk⟩
    ?a1 (fun _ X => X) (fun x X => Below.refl _ X) (fun _ _ _ _ h => h) ?assign ?body ?done ?stop
  case abide =>
    rintro U U' pre A Z ⟨hk, hU⟩ he
    obtain ⟨l1, l2, l3, l4, l5, l6, l7, l8, l9⟩ := hk.lo
    refine ⟨hk.go ⟨he.os, he.tape, he.output, he.size, fun k hk => he.block k (by omega) (fun e => by have := (hU k e).1; omega)⟩, fun k hk => ?_⟩
    have := he.size
    rcases he.new k hk with e | e
    · have := hU k e; omega
    · omega
  case assign =>
    intro l' x X K hK
    gi_wp2
    exact hK
  case body =>
    rintro l' U pre y X X' o hsp - hl' hX' ⟨hK, hU⟩
    have hmem := (Pp.mem_upto (Nat.le_refl 32)).1 (hsp.subset (List.mem_append_right _ (List.mem_singleton.2 rfl)))
    obtain ⟨m, hm, D, hD, hr1, hr2⟩ := hdecide.out y hmem.2.1 hmem.2.2
    have hpl : pre.length ≤ 32 := by
      have h1 := hsp.length_le
      have h2 := Pp.upto_len P.tab 32
      rw [List.length_append] at h1
      omega
    obtain ⟨j, hj, hD2⟩ := incL_has pre hD
    obtain ⟨rf, hrf⟩ : ∃ rf, D.refs + (j : Int) = rf := ⟨_, rfl⟩
    rw [hrf] at hD2
    have hrb : -1000000 ≤ rf ∧ rf ≤ 1000000 := by omega
    obtain ⟨l1, l2, l3, l4, l5, l6, l7, l8, l9⟩ := hK.lo
    obtain ⟨hDB, hDS⟩ : DscAt M.bx X' (B (.desc m)) (M.bd m) { D with refs := rf } := hK.is_.part (.desc m) _ hD2
    have hdl := hK.old _ _ hDS
    have hget := getD_any hK.is_ (m : Int)
    have hask : askI (incL K pre).descs (m : Int) = some m := by unfold askI; rw [if_pos (by omega), Int.toNat_natCast, hD2]; rfl
    rw [hask] at hget
    have hturn := Lib.hid (fun (W : World) (hW : Below X'.heap.size X' W) => turn_dc (hK.is_.below hW) hD2 3 (.int .i64 (rf + 1)) (D' := { D with refs := rf + 1 }) rfl)
    obtain ⟨d, hd⟩ : ∃ d, M.bd m = d := ⟨_, rfl⟩
    rw [hd] at hDB hDS hdl hturn
    have hgetH : Hid (Calls Tryz.prog 189 #[.pointer (some ⟨q, 3, none⟩), .int .i64 m] X' fun e w' => e = .returned (.pointer (some ⟨d, 0, none⟩)) ∧ Below X'.heap.size X' w') := Lib.hid (by rw [← hd]; exact hget)
    have x0 : X'.cell? ⟨x, 0, none⟩ = some (.pointer (some ⟨q, 0, none⟩)) := hK.box.cell 0
    have hsnoc : Hid (incL K (pre ++ [y]) = setD (incL K pre) m { D with refs := rf + 1 }) := Lib.hid (by rw [incL_snoc, hm, Int.toNat_natCast]; unfold incM; rw [hD2])
    obtain ⟨⟨k0, hk0⟩, xv⟩ := y
    dsimp only at hm
    subst hm
    have hKH := Lib.hid hK
    have hUH := Lib.hid hU
    have hDBH := Lib.hid hDB
    have hDSH := Lib.hid hDS
    have hdX := hDB.lt
    clear hsp hX' hmem hD hD2 hget hask hd hDB hDS hK hU hrf
    dsimp only [Pp.encT]
    gi_wp2
    refine ⟨trivial, fun h => (by cases h), ?_⟩
    refine (CallsIn.inRound l' (callsIn_wide.2 hgetH.out)).mono ?_
    rintro e wg ⟨rfl, hbg⟩
    have e3 : wg.cell? ⟨d, 3, none⟩ = some (.int .i64 rf) := (hDBH.out.keep (hbg.block d hdX)).cell 3
    have f3 : wg.frozen? ⟨d, 3, none⟩ = false := (hDBH.out.keep (hbg.block d hdX)).frozen 3
    have hbgH := Lib.hid hbg
    clear hbg
    gi_wp2
    have ht := hturn.out _ hbgH.out
    have hs9 := hbgH.out.size
    obtain ⟨W9, hW9⟩ : ∃ W, wg.setCell ⟨d, 3, none⟩ (.int .i64 (rf + 1)) = W := ⟨_, rfl⟩
    have far : ∀ g, g ≠ d → g < X'.heap.size → W9.heap[g]? = X'.heap[g]? := fun g hg hlt => by rw [← hW9]; exact (Below.heap_setCell _ _ _ g hg).trans (hbgH.out.block g hlt)
    have hsz9 : W9.heap.size = wg.heap.size := by rw [← hW9]; simp
    rw [hW9] at ht ⊢
    have hK := hKH.out
    have hF9 : Frm (AllX B) w W9 := by rw [← hW9]; exact (hK.frm.below hbgH.out).setCell (a := ⟨d, 3, none⟩) (.inl ⟨_, hDSH.out⟩) _
    refine ⟨⟨⟨by rw [hsnoc.out]; exact ht, hF9, hK.box.keep (far _ (by omega) hK.box.lt), hK.kid.keep (far _ (by omega) hK.kid.lt), hK.tab.keep (far _ (by omega) hK.tab.lt), ⟨l1, l2, l3, l4, l5, l6, l7, l8, by omega⟩, hK.old⟩, fun k hk => ?_⟩, ⟨by omega, fun k hk hlt => ?_⟩, ?_, fun f hf => ?_⟩
    · have := hUH.out k hk; omega
    · have := hUH.out k hk
      exact far k (by omega) hlt
    · exact far _ (by omega) (by omega)
    · exact ⟨f, hf.keep (far _ (by omega) hK.tab.lt), fun _ _ => rfl⟩
  case done =>
    rintro D U ys X hD hDU rfl ⟨hK, hU⟩ hKd
    obtain ⟨l1, l2, l3, l4, l5, l6, l7, l8, l9⟩ := hK.lo
    obtain ⟨hD1, hD2⟩ := hU D hDU
    obtain ⟨K1, hK1⟩ : ∃ K1, incL K (Pp.upto P.tab 32) = K1 := ⟨_, rfl⟩
    have hq1 := incL_eq K (Pp.upto P.tab 32)
    have hKis := hK.is_
    rw [hK1] at hq1 hKis
    obtain ⟨z1, z2, z3, z4, z5, z6⟩ := hq1
    have hf : forkM K P = ((K.lastR : Int) + 1, 0, putR (setF K1 (HoldM K1.fs P.dir).2) (kidP K P)) := by
      unfold forkM
      rw [if_neg (by have := hllH.out; omega), hK1, z1]
    have hfH := Lib.hid hf
    obtain ⟨xv, dv, rv, o1, o2, ho⟩ := hKis.own
    obtain ⟨fp, hfp⟩ : ∃ fp, M.fp = fp := ⟨_, rfl⟩
    have c0 : X.cell? ⟨x, 0, none⟩ = some (.pointer (some ⟨q, 0, none⟩)) := hK.box.cell 0
    have c1 : X.cell? ⟨q, 0, none⟩ = some (.pointer (some ⟨fp, 0, none⟩)) := by rw [← hfp]; exact ho.blk.cell 0
    have c2 : X.cell? ⟨cb, 3, none⟩ = some (.int .i64 P.dir) := hK.kid.cell 3
    have hIX : KerIs X.drew B q K1 M := hKis.keep (Nat.le_refl _) (fun _ _ _ => rfl)
    have hw1 : WF c K1.fs := by rw [z1]; exact hwH.out
    have hho : Hid (Calls Tryz.prog 30 #[.pointer (some ⟨fp, 0, none⟩), .int .i64 P.dir] X.drew fun e w' => e = .returned (.int .i64 (HoldM K1.fs P.dir).1) ∧ KP (AllX B) X.drew K1 M w' q (setF K1 (HoldM K1.fs P.dir).2)) := Lib.hid (by
      have := fHold_any hIX hw1 hc P.dir
      rw [hfp] at this
      exact this)
    have hnr : n ≤ K1.lastR := by rw [z6]; exact (hH.out.num.lr _ (ask_mem hPH.out)).2
    have hPd : ask (setF K1 (HoldM K1.fs P.dir).2).procs n = some P := by show ask K1.procs n = some P; rw [z3]; exact hPH.out
    have hotX : ∀ g, w.heap.size ≤ g → g < X.heap.size → ¬ AllX B g := fun g h1 _ ⟨i, hi⟩ => by have := hK.old i g hi; omega
    have hkp6 : Hid (∀ W, KP (AllX B) X.drew K1 M W q (setF K1 (HoldM K1.fs P.dir).2) → (W.cell? ⟨x, 0, none⟩ = some (.pointer (some ⟨q, 0, none⟩)) ∧ W.cell? ⟨q, 0, none⟩ = some (.pointer (some ⟨fp, 0, none⟩)) ∧ W.cell? ⟨cb, 3, none⟩ = some (.int .i64 P.dir)) ∧ W.heap[cb]? = X.heap[cb]? ∧ W.heap[tc]? = X.heap[tc]? ∧ W.heap[D]? = X.heap[D]?) := Lib.hid (fun W hW => by
      have hsee := (kp_see hW hnr hPd).1
      obtain ⟨B6, M6, k1, k2, k3, k4, k5, k6, k7⟩ := hW
      have kb : ∀ g, w.heap.size ≤ g → g < X.heap.size → W.heap[g]? = X.heap[g]? := fun g h1 h2 => k7.block g h2 (hotX g h1 h2)
      refine ⟨⟨(World.cell?_of_block (a := ⟨x, 0, none⟩) (kb x (by omega) (by omega))).trans c0, ?_, (World.cell?_of_block (a := ⟨cb, 3, none⟩) (kb cb (by omega) (by omega))).trans c2⟩, kb cb (by omega) (by omega), kb tc (by omega) (by omega), kb D (by omega) (by omega)⟩
      rw [hfp] at hsee
      exact hsee)
    have hKH := Lib.hid hK
    have hUH := Lib.hid hU
    have hKdH := Lib.hid hKd
    have hz : Hid (K1.lastX = K.lastX ∧ K1.lastD = K.lastD ∧ K1.lastR = K.lastR ∧ K1.procs = K.procs) := Lib.hid ⟨z4, z5, z6, z3⟩
    have hoth := Lib.hid hotX
    have hfpH := Lib.hid hfp
    clear hK hKis hU hKd ho hIX hw1 hnr hPd hotX z1 z2 z3 z4 z5 z6 hf hK1 hfp hwH hokH hdecide hI30 hT3 hKid
    have d0 : X.drew.cell? ⟨x, 0, none⟩ = some (.pointer (some ⟨q, 0, none⟩)) := c0
    have d1' : X.drew.cell? ⟨q, 0, none⟩ = some (.pointer (some ⟨fp, 0, none⟩)) := c1
    have d2 : X.drew.cell? ⟨cb, 3, none⟩ = some (.int .i64 P.dir) := c2
    go_upto_region 7 with fail
    go_region_held3 (fun Z => Z.cell? ⟨x, 0, none⟩ = some (.pointer (some ⟨q, 0, none⟩)) ∧ Z.cell? ⟨q, 0, none⟩ = some (.pointer (some ⟨fp, 0, none⟩)) ∧ Z.cell? ⟨cb, 3, none⟩ = some (.int .i64 P.dir)) (first | exact ⟨c0, c1, c2⟩ | exact ⟨d0, d1', d2⟩ | exact (hkp6.out _ hk6H.out).1 | go_keep | fail)
      ((first | (go_at_call 30; refine hho.out.mono ?_; rintro e w6 ⟨rfl, hk6⟩; have hk6H := Lib.hid hk6; clear hk6) | fail))
    all_goals
      obtain ⟨⟨e0, _, _⟩, e1, e2, e3⟩ := hkp6.out _ hk6H.out
      obtain ⟨K2, hK2⟩ : ∃ K2, setF K1 (HoldM K1.fs P.dir).2 = K2 := ⟨_, rfl⟩
      have hk6' := hk6H.out
      have hz2 : Hid (K2.lastX = K.lastX ∧ K2.lastD = K.lastD ∧ K2.lastR = K.lastR ∧ K2.procs = K.procs) := Lib.hid (by rw [← hK2]; exact hz.out)
      rw [hK2] at hk6' hfH
      obtain ⟨B6, M6, k1, k2, k3, k4, k5, k6, k7⟩ := hk6'
      obtain ⟨xr, hxr⟩ : ∃ xr : Prc, xr = ⟨0, P.num, P.tab, P.dir, P.mask, false, 0⟩ := ⟨_, rfl⟩
      have hsx := k7.size
      have hsd : X.drew.heap.size = X.heap.size := rfl
      have hx6 : PrcAt w6 (fun g => g = cb ∨ g = tc) cb tc xr := by rw [hxr]; exact ⟨hKH.out.kid.keep e1, hKH.out.tab.keep e2, .inl rfl, .inr rfl, fun h => l4 h.symm⟩
      have hn6 : ∀ g, w.heap.size ≤ g → g < X.heap.size → ¬ AllX B6 g := fun g h1 h2 h3 => by
        rcases k6 g h3 with h4 | h4
        · exact hoth.out g h1 h2 h4
        · omega
      have hput := putR_any k1 (S := fun g => g = cb ∨ g = tc) hx6 (fun j g hj hg => by rcases hg with rfl | rfl <;> exact hn6 _ (by omega) (by omega) ⟨j, hj⟩) (fun g hg => by rcases hg with rfl | rfl <;> omega) (by have := hz2.out.2.2.1; omega)
      have hputH : Hid (Calls Tryz.prog 29 #[.pointer (some ⟨q, 5, none⟩), .pointer (some ⟨cb, 0, none⟩)] w6 fun e w' => e = .returned (.int .i64 ((K.lastR : Int) + 1)) ∧ ∃ B7, KerIs w' B7 q (putR K2 xr) (mpR M6 K2 cb tc) ∧ (∀ g, AllX B7 g → (AllX B6 g ∨ (g = cb ∨ g = tc)) ∨ w6.heap.size ≤ g) ∧ Frm (B6 .own) w6 w') := Lib.hid (hput.mono fun e w' ⟨he, B7, h1, h2, h3, _⟩ => ⟨by rw [he, hz2.out.2.2.1], B7, h1, h2, h3⟩)
      have hxrH := Lib.hid hxr
      have hk2H := Lib.hid k2
      have hk6F := Lib.hid k6
      have hk7H := Lib.hid k7
      have hn6H := Lib.hid hn6
      have e3H := Lib.hid e3
      clear c0 c1 c2 d0 d1' d2 hput hx6 k1 k2 k3 k4 k5 k6 k7 hk6H hkp6 hho hxr hn6 e1 e2 e3
      go_wp2_with (first
        | (go_at_call 29; refine hputH.out.mono ?_; rintro e w7 ⟨rfl, B7, hk7', hg7, hF7⟩
           have hP7 : Blk w7 cb 84 (pcells xr tc).toArray := by
             have h9 : PrcAt w7 (B7 (.proc (K2.lastR + 1))) ((mpR M6 K2 cb tc).br (K2.lastR + 1)) ((mpR M6 K2 cb tc).bt (K2.lastR + 1)) xr := hk7'.part (.proc (K2.lastR + 1)) xr (by show ask (K2.procs ++ [(K2.lastR + 1, xr)]) (K2.lastR + 1) = some xr; rw [ask_app (fun p hp => by rw [hz2.out.2.2.2] at hp; have := (hH.out.num.lr p hp).2; have := hz2.out.2.2.1; omega), if_pos rfl])
             have hbr : (mpR M6 K2 cb tc).br (K2.lastR + 1) = cb := by show upN M6.br (K2.lastR + 1) cb (K2.lastR + 1) = cb; unfold upN; rw [if_pos rfl]
             have hbt : (mpR M6 K2 cb tc).bt (K2.lastR + 1) = tc := by show upN M6.bt (K2.lastR + 1) tc (K2.lastR + 1) = tc; unfold upN; rw [if_pos rfl]
             rw [hbr, hbt] at h9
             exact h9.1
           have u0 : w7.cell? ⟨cb, 0, none⟩ = some (.int .i64 0) := by have := hP7.cell 0; rw [hxrH.out] at this; exact this
           have uf : w7.frozen? ⟨cb, 0, none⟩ = false := hP7.frozen 0
           have hk7H' := Lib.hid hk7'; have hg7H := Lib.hid hg7; have hF7H := Lib.hid hF7; clear hk7' hg7 hF7 hP7))
      obtain ⟨W8, hW8⟩ : ∃ W, w7.setCell ⟨cb, 0, none⟩ (.int .i64 ((K.lastR : Int) + 1)) = W := ⟨_, rfl⟩
      have hD8 : W8.heap[D]? = some (.deferred (some [])) := by
        rw [← hW8]
        refine (Below.heap_setCell _ _ _ D (show D ≠ cb by omega)).trans ?_
        refine (hF7H.out.block D (by have := hk7H.out.size; have e : X.drew.heap.size = X.heap.size := rfl; omega) (fun hh => hn6H.out D (by omega) (by omega) ⟨_, hh⟩)).trans ?_
        exact e3H.out.trans hKdH.out
      rw [hW8]
      refine ⟨by simp, .inl ⟨_, _, rfl, run_takeDeferred hD8, ?_⟩⟩
      refine ⟨_, results_tmp2 rfl _ _ _, rfl, ?_⟩
      rw [hfH.out]
      obtain ⟨v1, v2, v3, v4⟩ := hz2.out
      obtain ⟨u1, u2, u3, u4⟩ := hz.out
      have hs6 := hk7H.out.size
      have hsd2 : X.drew.heap.size = X.heap.size := rfl
      have hs7 := hF7H.out.size
      have hP3 : ask (putR K2 xr).procs (K2.lastR + 1) = some xr := by
        show ask (K2.procs ++ [(K2.lastR + 1, xr)]) (K2.lastR + 1) = some xr
        rw [ask_app (fun p hp => by rw [v4] at hp; have := (hH.out.num.lr p hp).2; omega), if_pos rfl]
      have hbr : (mpR M6 K2 cb tc).br (K2.lastR + 1) = cb := by show upN M6.br (K2.lastR + 1) cb (K2.lastR + 1) = cb; unfold upN; rw [if_pos rfl]
      have hst := step_pc hk7H'.out hP3 (P' := kidP K P) 0 (.int .i64 ((K.lastR : Int) + 1)) (fun tb => by rw [hxrH.out]; rfl) (by rw [hxrH.out]; rfl)
      rw [hbr, hW8, setR_put (fun p hp => by rw [v4] at hp; have := hH.out.num.lr p hp; omega)] at hst
      obtain ⟨B8, M8, j1, j2, j3, j4, j5, j6, j7⟩ := hst
      have own8 : ∀ g, AllX B8 g → (AllX B g ∨ (g = cb ∨ g = tc)) ∨ X.heap.size ≤ g := fun g hg => by
        rcases j6 g hg with h1 | h1
        · rcases hg7H.out g h1 with (h2 | h2) | h2
          · rcases hk6F.out g h2 with h3 | h3
            · exact .inl (.inl h3)
            · right; omega
          · exact .inl (.inr h2)
          · right; omega
        · right; omega
      have own7 : ∀ g, AllX B7 g → AllX B g ∨ w.heap.size ≤ g := fun g h1 => by
        rcases hg7H.out g h1 with (h2 | h2) | h2
        · rcases hk6F.out g h2 with h3 | h3
          · exact .inl h3
          · right; omega
        · right; rcases h2 with rfl | rfl <;> omega
        · right; omega
      have hx2 : MExt K M M6 := ⟨fun n hn => hk2H.out.bx n (by omega), fun n hn => hk2H.out.bd n (by omega), fun n hn => hk2H.out.br n (by omega), fun n hn => hk2H.out.bt n (by omega), hk2H.out.fp⟩
      have hK3 : (putR K2 xr).lastX = K2.lastX ∧ (putR K2 xr).lastD = K2.lastD ∧ (putR K2 xr).lastR = K2.lastR + 1 := ⟨rfl, rfl, rfl⟩
      have hK4 : (putR K2 (kidP K P)).lastX = K2.lastX ∧ (putR K2 (kidP K P)).lastD = K2.lastD ∧ (putR K2 (kidP K P)).lastR = K2.lastR + 1 := ⟨rfl, rfl, rfl⟩
      have hF : Frm (AllX B) w W8 := ((hKH.out.frm.below (w2 := X.drew) (Below.refl _ _).drew).trans (O1 := AllX B) (fun g hg => .inl hg) hk7H.out |>.trans (O1 := B6 .own) (fun g hg => (hk6F.out g ⟨_, hg⟩).imp_right (fun h => by omega)) hF7H.out).trans own7 j7
      refine ⟨B8, M8, j1.keep (by simp [World.putObj]) (fun i g hg => World.putObj_heap_other (fun e => ?_)), (hx2.trans (K' := K2) (ext_mpR M6 K2 cb tc) (by omega) (by omega) (by omega)).trans (K' := putR K2 xr) j2 (by omega) (by omega) (by omega), (by show K.lastX ≤ K2.lastX; omega), (by show K.lastD ≤ K2.lastD; omega), (by show K.lastR ≤ K2.lastR + 1; omega), fun g hg => ?_, ⟨hF.os, hF.tape, hF.output, by have := hF.size; simpa [World.putObj] using this, fun g h1 h2 => (World.putObj_heap_other (by omega)).trans (hF.block g h1 h2)⟩⟩
      · rcases own8 g ⟨i, hg⟩ with (h1 | h1) | h1
        · exact hoth.out D (by omega) (by omega) (e ▸ h1)
        · omega
        · omega
      · rcases own8 g hg with (h1 | h1) | h1
        · exact .inl h1
        · right; rcases h1 with rfl | rfl <;> omega
        · right; omega
  case stop =>
    rintro D c U pre X hD hDU hpre h hK
    exact h.elim
theorem fork_any (h : KerIs w B q K M) (hw : WF c K.fs) (hc : c ≤ 5000) {n : Nat} {P : Prc} (hP : ask K.procs n = some P) (hlast : K.lastR < 90000)
    (hok : ∀ i, i < 32 → (P.tab i).tk = true → ∃ m : Nat, (P.tab i).x = m ∧ ∃ D, ask K.descs m = some D ∧ -1000000 ≤ D.refs ∧ D.refs ≤ 900000) :
    Calls Tryz.prog 158 #[.pointer (some ⟨q, 0, none⟩), .pointer (some ⟨M.br n, 0, none⟩)] w fun e w' => e = .returned (.tuple #[.int .i64 (forkM K P).1, .int .i64 (forkM K P).2.1]) ∧ KP (AllX B) w K M w' q (forkM K P).2.2 := by
  by_cases hl : 24 ≤ K.procs.length
  · have hf : forkM K P = (0, 11, K) := by unfold forkM; rw [if_pos hl]
    rw [hf]
    exact (fork_full h _ hl).mono fun e w' ⟨he, hb⟩ => ⟨he, KP.of h hb⟩
  · have e1 : (forkM K P).1 = (K.lastR : Int) + 1 := by unfold forkM; rw [if_neg hl]
    have e2 : (forkM K P).2.1 = 0 := by unfold forkM; rw [if_neg hl]
    rw [e1, e2]
    exact callsIn_wide.1 (fork_in 5 (Nat.le_refl _) h hw hc hP (by omega) hlast hok)
end
end Go.Proofs.YtmilagppbepnbaaGreat.Kn
/- The kernel's Call, number by number: pipe, fork, read and write at a pipe's end. Condition: the kernel lies as stated; what the call names is there. -/
namespace Go.Proofs.YtmilagppbepnbaaGreat.Kn
open Go.RowKit Go.PlainAid
set_option linter.unusedVariables false
set_option linter.unusedSimpArgs false
section
variable {w w' : World} {B : Ix → Nat → Prop} {q : Nat} {K K' : Ker} {M : Mp} {c : Nat}
theorem waits_no {pb : Nat} (no a b : Int) (s t : ByteArray) (pa : Option Addr) (pn pc : Nat) (h1 : (no == 1) = false) (h2 : (no == 2) = false) (h3 : (no == 11) = false) (W : World) (_ : Below w.heap.size w W) :
    Calls Tryz.prog 47 #[.pointer (some ⟨q, 0, none⟩), .pointer (some ⟨pb, 0, none⟩), .agg #[.int .i64 no, .int .i64 a, .int .i64 b, .string s, .string t, .slice pa pn pc]] W fun e w' => e = .returned (.bool false) ∧ Below W.heap.size W w' :=
  waits_other no a b s t pa pn pc h1 h2 h3 W
theorem c_pipe (h : KerIs w B q K M) {pid : Int} {n : Nat} (hl : liveM K pid = some n) {P : Prc} (hP : ask K.procs n = some P) (hlast : K.lastD < 80000) (hlx : K.lastX < 80000) (hpp : ∀ m y, ask K.descs m = some y → ∀ z, y.pipe = some z → z ≤ K.lastX) (hok : (npipeM K n P).2.2.1 = 0) (a b : Int) (s t : ByteArray) (pa : Option Addr) (pn pc : Nat) :
    Calls Tryz.prog 15 #[.pointer (some ⟨q, 0, none⟩), .int .i64 pid, .agg #[.int .i64 7, .int .i64 a, .int .i64 b, .string s, .string t, .slice pa pn pc]] w fun e w' => e = .returned (.tuple #[.agg #[.int .i64 (npipeM K n P).1, .int .i64 (npipeM K n P).2.1, .string ⟨#[]⟩, .slice none 0 0, .int .i64 0, .int .i64 0, .int .i64 0, .int .i64 0, .int .i64 0, .int .i64 0], .bool false]) ∧ KP (AllX B) w K M w' q (npipeM K n P).2.2.2 :=
  call_ok h hl 7 a b s t pa pn pc _ _ _ _ _ _ _ _ _ _ _ (waits_no 7 a b s t pa pn pc rfl rfl rfl)
    (fun W hW => answer_7 (h.below hW) a b s t pa pn pc _ _ _ _ _ _ _ _ _ _ _ 0 (fun W2 hW2 => on_pipe ((h.below hW).below hW2) a b s t pa pn pc _ _ 0 (fun W3 hW3 => by
      have := newPipe_any (((h.below hW).below hW2).below hW3) hP hlast hlx hpp
      rw [hok] at this
      exact this)))
theorem c_fork (h : KerIs w B q K M) {pid : Int} {n : Nat} (hl : liveM K pid = some n) {P : Prc} (hP : ask K.procs n = some P) (hw : WF c K.fs) (hc : c ≤ 5000) (hlast : K.lastR < 90000)
    (hk : ∀ i, i < 32 → (P.tab i).tk = true → ∃ m : Nat, (P.tab i).x = m ∧ ∃ D, ask K.descs m = some D ∧ -1000000 ≤ D.refs ∧ D.refs ≤ 900000) (hok : (forkM K P).2.1 = 0) (a b : Int) (s t : ByteArray) (pa : Option Addr) (pn pc : Nat) :
    Calls Tryz.prog 15 #[.pointer (some ⟨q, 0, none⟩), .int .i64 pid, .agg #[.int .i64 8, .int .i64 a, .int .i64 b, .string s, .string t, .slice pa pn pc]] w fun e w' => e = .returned (.tuple #[.agg #[.int .i64 (forkM K P).1, .int .i64 0, .string ⟨#[]⟩, .slice none 0 0, .int .i64 0, .int .i64 0, .int .i64 0, .int .i64 0, .int .i64 0, .int .i64 0], .bool false]) ∧ KP (AllX B) w K M w' q (forkM K P).2.2 :=
  call_ok h hl 8 a b s t pa pn pc _ _ _ _ _ _ _ _ _ _ _ (waits_no 8 a b s t pa pn pc rfl rfl rfl)
    (fun W hW => answer_8 (h.below hW) a b s t pa pn pc _ _ _ _ _ _ _ _ _ _ _ 0 (fun W2 hW2 => on_fork ((h.below hW).below hW2) a b s t pa pn pc _ 0 (fun W3 hW3 => by
      have := fork_any (((h.below hW).below hW2).below hW3) hw hc hP hlast hk
      rw [hok] at this
      exact this)))
theorem c_write_pipe (h : KerIs w B q K M) {pid : Int} {n : Nat} (hl : liveM K pid = some n) {P : Prc} (hP : ask K.procs n = some P) (fd : Int) {m : Nat} {D : Dsc} (hm : writN K P fd = some m) (hD : ask K.descs m = some D) (hkd : D.kind = 4) (hp : D.pipe = some D.n) {z : Pp.St} (hs : ask K.pipes D.n = some z) (s : ByteArray) (hsz : s.size ≤ maxLen) (hne : s.toList.isEmpty = false)
    (hok : z.writeErr s.data.toList = 0) (hwt : z.waits true = false) (b : Int) (t : ByteArray) (pa : Option Addr) (pn pc : Nat) :
    Calls Tryz.prog 15 #[.pointer (some ⟨q, 0, none⟩), .int .i64 pid, .agg #[.int .i64 2, .int .i64 fd, .int .i64 b, .string s, .string t, .slice pa pn pc]] w fun e w' => e = .returned (.tuple #[.agg #[.int .i64 (z.wrote s.data.toList), .int .i64 0, .string ⟨#[]⟩, .slice none 0 0, .int .i64 0, .int .i64 0, .int .i64 0, .int .i64 0, .int .i64 0, .int .i64 0], .bool false]) ∧ KP (AllX B) w K M w' q (setX K D.n (z.written s.data.toList)) :=
  call_ok h hl 2 fd b s t pa pn pc _ _ _ _ _ _ _ _ _ _ _
    (fun W hW => waits_write (h.below hW) hP fd hm hD b s t hne pa pn pc false (fun W2 hW2 => by
      have := xWaits_any ((h.below hW).below hW2) hs true
      rw [hwt] at this
      rw [hp]
      exact this))
    (fun W hW => answer_2 (h.below hW) fd b s t pa pn pc _ _ _ _ _ _ _ _ _ _ _ 0 (fun W2 hW2 => on_write ((h.below hW).below hW2) fd b s t pa pn pc _ 0 (fun W3 hW3 => by
      have := write_pipe (((h.below hW).below hW2).below hW3) hP fd hm hD hkd hp hs s hsz (by rw [hok]; decide)
      rw [hok] at this
      exact this)))
theorem c_read_pipe (h : KerIs w B q K M) {pid : Int} {n : Nat} (hl : liveM K pid = some n) {P : Prc} (hP : ask K.procs n = some P) (fd : Int) {m : Nat} {D : Dsc} (hm : readN K P fd = some m) (hD : ask K.descs m = some D) (hkd : D.kind = 3) (hp : D.pipe = some D.n) {z : Pp.St} (hs : ask K.pipes D.n = some z) (k : Int) (k0 : 0 < k) (k9 : k ≤ 9223372036854775807)
    (hok : z.readErr k = 0) (hwt : z.waits false = false) (s t : ByteArray) (pa : Option Addr) (pn pc : Nat) :
    Calls Tryz.prog 15 #[.pointer (some ⟨q, 0, none⟩), .int .i64 pid, .agg #[.int .i64 1, .int .i64 fd, .int .i64 k, .string s, .string t, .slice pa pn pc]] w fun e w' => e = .returned (.tuple #[.agg #[.int .i64 0, .int .i64 0, .string ⟨(z.got k).toArray⟩, .slice none 0 0, .int .i64 0, .int .i64 0, .int .i64 0, .int .i64 0, .int .i64 0, .int .i64 0], .bool false]) ∧ KP (AllX B) w K M w' q (setX K D.n (z.read k)) :=
  call_ok h hl 1 fd k s t pa pn pc _ _ _ _ _ _ _ _ _ _ _
    (fun W hW => waits_read (h.below hW) hP fd hm hD (by rw [hkd]; decide) k k0 s t pa pn pc false (fun W2 hW2 => by
      have := xWaits_any ((h.below hW).below hW2) hs false
      rw [hwt] at this
      rw [hp]
      exact this))
    (fun W hW => answer_1 (h.below hW) fd k s t pa pn pc _ _ _ _ _ _ _ _ _ _ _ 0 (fun W2 hW2 => on_read ((h.below hW).below hW2) fd k s t pa pn pc _ 0 (fun W3 hW3 => by
      have := read_pipe (((h.below hW).below hW2).below hW3) hP fd hm hD hkd hp hs k (Int.le_of_lt k0) k9
      rw [hok, if_pos rfl, if_pos rfl] at this
      exact this)))
theorem c_read_wait (h : KerIs w B q K M) {pid : Int} {n : Nat} (hl : liveM K pid = some n) {P : Prc} (hP : ask K.procs n = some P) (fd : Int) {m : Nat} {D : Dsc} (hm : readN K P fd = some m) (hD : ask K.descs m = some D) (hkd : D.kind = 3) (hp : D.pipe = some D.n) {z : Pp.St} (hs : ask K.pipes D.n = some z) (k : Int) (k0 : 0 < k)
    (hwt : z.waits false = true) (s t : ByteArray) (pa : Option Addr) (pn pc : Nat) :
    Calls Tryz.prog 15 #[.pointer (some ⟨q, 0, none⟩), .int .i64 pid, .agg #[.int .i64 1, .int .i64 fd, .int .i64 k, .string s, .string t, .slice pa pn pc]] w fun e w' => e = .returned (.tuple #[.agg #[.int .i64 0, .int .i64 0, .string ⟨#[]⟩, .slice none 0 0, .int .i64 0, .int .i64 0, .int .i64 0, .int .i64 0, .int .i64 0, .int .i64 0], .bool true]) ∧ Below w.heap.size w w' :=
  call_waits h hl 1 fd k s t pa pn pc
    (fun W hW => waits_read (h.below hW) hP fd hm hD (by rw [hkd]; decide) k k0 s t pa pn pc true (fun W2 hW2 => by
      have := xWaits_any ((h.below hW).below hW2) hs false
      rw [hwt] at this
      rw [hp]
      exact this))
end
end Go.Proofs.YtmilagppbepnbaaGreat.Kn
