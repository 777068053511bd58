/- parts, Parts of word: what they answer. No condition. -/
import Derived.Test.YtgpkhpheomaiaaaRdP
namespace Go.Proofs.Ytgpkhpheomaiaaa
open Go.RowKit Go.PlainAid
attribute [local go_sem] Oper.semAt_some

section
variable {f : Nat → St → Except Nat (Nat × St)} {size n i : Nat} {st : St}
theorem run_stop (h : ¬ i < size) : runM f size n i st = .ok st := by
  cases n with
  | zero => rfl
  | succ n => rw [runM, if_neg h]
theorem run_err {er : Nat} (h : i < size) (hr : f i st = .error er) : runM f size (n + 1) i st = .error er := by rw [runM, if_pos h, hr]
theorem run_on {r : Nat × St} (h : i < size) (hr : f i st = .ok r) : runM f size (n + 1) i st = runM f size n r.1 r.2 := by rw [runM, if_pos h, hr]
end

theorem all_any {w : World} {b n₀ : Nat} {t : ByteArray} {k d : Int} {D : Nat} {st : St} {O : Nat → Prop} (h : Rd w b n₀ t k d D st O) :
    ∃ (T : Nat → Prop) (a : Option Addr) (c : Nat), Calls Try.prog 28 #[.pointer (some ⟨b, 3, none⟩)] w (fun e w' => e = .returned (.slice a st.ps.length c) ∧ w' = w) ∧ WAt w T (D + 1) (.slice a st.ps.length c) st.ps ∧ ∀ g, T g → n₀ ≤ g ∧ g < w.heap.size := by
  obtain ⟨T, pts, a0, c0, a1, c1, hB, hr, hy, hl, hp, hT, ⟨o1, o2, o3, o4⟩, hq⟩ := h
  refine ⟨fun g => T g ∨ Value.ownBlock (.slice a0 pts.length c0) = some g, a0, c0, ?_, ⟨pts, ⟨n₀, by rw [← hl]; exact hr⟩, fun g hg => .inr (by rw [own_len (m := st.ps.length)]; exact hg), hl, fun i x p hx hpp => PtIs_mono (fun _ h => .inl h) (fun _ _ => rfl) (hp i x p hx hpp)⟩, fun g hg => hg.elim (fun h => ⟨(hT g h).1, (hT g h).2.1⟩) (fun h => o4 g (o2 g h))⟩
  have e3 : w.cell? ⟨b, 3, none⟩ = some (.slice a0 pts.length c0) := hB.cell 3
  rw [← hl]
  clear hl hr hy hp hT o1 o2 o3 o4 hq hB
  go_enter Try.func28, Try.ntmps28
  go_wp2
  go_ret
  exact ⟨rfl, rfl⟩

/-- The reader that parts makes. -/
theorem rd_new (w : World) (t : ByteArray) (k d : Int) (D : Nat) : Rd (w.alloc (.cells (rd t k d none 0 0 none 0 0 false false) 59)) w.heap.size w.heap.size t k d D st0 (fun g => g = w.heap.size) :=
  ⟨fun _ => False, [], none, 0, none, 0, Blk.new w _ _, World.ownsRow_nil _ _ _ _, World.ownsRow_nil _ _ _ _, rfl, fun i x p h => (by cases h), fun g h => h.elim, ⟨rfl, fun g h => (by cases h), fun g h => (by cases h), fun g h => (by subst h; simp)⟩, fun _ => ⟨rfl, rfl⟩⟩

set_option maxRecDepth 100000 in
set_option maxHeartbeats 8000000 in
theorem over_any (rec : Rec) (kk : Nat) (d : Int) (hd : d + kk = 24) (hd0 : 0 ≤ d) (hrec : 1 ≤ kk → Nest rec kk d) (hro : RecOk rec) (s : ByteArray) (k : Int) (w : World) (hs : s.size ≤ 65536) (hk : k = 0 ∨ k = 1 ∨ k = 2) :
    Calls Try.prog 16 #[.string s, .int .i64 k, .int .i64 d] w (PartsR (overM rec kk s k) (kk + 1) w) := by
  have hrd := Lib.hid (rd_new w s k d kk)
  have hdH := Lib.hid hd
  have hkH := Lib.hid hk
  have hrecH := Lib.hid hrec
  have hroH := Lib.hid hro
  clear hrec hro hd hk
  go_enter Try.func16, Try.ntmps16
  go_wp2
  go_loopw [9] (fun v wr => ∃ (i f : Nat) (st : St), i ≤ s.size ∧ s.size ≤ i + f ∧ v = .int .i64 i ∧ Hid (runM (stepM rec s k kk) s.size s.size 0 st0 = runM (stepM rec s k kk) s.size f i st) ∧ Hid (st.m1 ≤ i ∧ st.m2 ≤ i ∧ st.ok) ∧
      Hid (RdPost (w.alloc (.cells (rd s k d none 0 0 none 0 0 false false) 59)) w.heap.size w.heap.size s k d kk (fun g => g = w.heap.size) st wr)) (fun v _ => s.size - (intOf v).toNat)
  case atStart => exact ⟨0, s.size, st0, Nat.zero_le _, by omega, by go_num, Lib.hid rfl, Lib.hid ⟨Nat.le_refl _, Nat.le_refl _, fun _ => ⟨rfl, rfl⟩⟩, Lib.hid (RdPost.refl hrd.out)⟩
  case round =>
    obtain ⟨i, f, st, hi, hf, rfl, hrun, hm, hP⟩ := hrel
    obtain ⟨O', hR', hg', hF'⟩ := hP.out
    have hAl : Below w.heap.size w (w.alloc (.cells (rd s k d none 0 0 none 0 0 false false) 59)) := (Below.refl _ _).alloc (Nat.le_refl _) _
    have hW : Below w.heap.size w wr := hAl.trans (hF'.toBelow (fun g e => by rw [e]; exact Nat.le_refl _) (by simp))
    by_cases hlt : i < s.size
    · obtain ⟨f, rfl⟩ : ∃ g, f = g + 1 := ⟨f - 1, by omega⟩
      have hstep := Lib.hid (step_rd hR' hs hlt hkH.out hdH.out hd0 hm.out.2.2 hm.out.1 hm.out.2.1 hrecH.out hroH.out)
      have hgH := Lib.hid hg'
      have hFH := Lib.hid hF'
      have hWH := Lib.hid hW
      clear hg' hF' hP hR' hAl hW
      cases hres : stepM rec s k kk i st with
      | error er =>
        rw [hres] at hstep
        have hover : Hid (overM rec kk s k = .error er) := Lib.hid (by unfold overM; rw [hrun.out, run_err hlt hres])
        have hne : er ≠ 0 := by
          obtain ⟨e, w', fr, hq, _⟩ := (step_bad hstep.out) []
          exact hq.2.1
        have hE := ne_err hne
        have hneH := Lib.hid hne
        clear hres hne
        go_wp2_with (go_at_call 26; refine (step_bad hstep.out).mono ?_; rintro e w5 ⟨rfl, hq⟩; have hqH := Lib.hid hq; clear hq)
        go_ret2
        exact ⟨hWH.out.trans hqH.out.2, .inl ⟨er, hover.out, hneH.out, rfl⟩⟩
      | ok r =>
        obtain ⟨nx, st'⟩ := r
        have hso := step_ok hm.out.2.2 hroH.out hlt hres
        rw [hres] at hstep
        have hrun2 := Lib.hid (hrun.out.trans (run_on hlt hres))
        obtain ⟨h1, h2, h3, h4, h5⟩ := hso
        have h1' : i < nx := h1
        have h2' : nx ≤ s.size := h2
        have hm2 : Hid (st'.m1 ≤ nx ∧ st'.m2 ≤ nx ∧ st'.ok) := Lib.hid ⟨by have := hm.out.1; have h3 : st'.m1 + i ≤ st.m1 + nx := h3; omega, by have := hm.out.2.1; have h4 : st'.m2 + i ≤ st.m2 + nx := h4; omega, h5⟩
        clear hres h1 h2 h3 h4 h5
        go_wp2_with (go_at_call 26; refine (step_good hstep.out).mono ?_; rintro e w5 ⟨rfl, hq⟩; have hqH := Lib.hid (RdPost.trans hgH.out hFH.out hq); clear hq)
        go_roundw
        case rel => exact ⟨nx, f, st', h2', by omega, rfl, hrun2, hm2, hqH⟩
        case measure => simp [intOf]; omega
    · obtain rfl : i = s.size := by omega
      have hover : Hid (overM rec kk s k = .ok st.close.ps) := Lib.hid (by unfold overM; rw [hrun.out, run_stop hlt])
      have hcl := Lib.hid (close_rd hR' (by have := m1_ge st; have := hm.out.1; omega))
      have hgH := Lib.hid hg'
      have hFH := Lib.hid hF'
      clear hg' hF' hP hR' hAl hW
      go_wp2_with (first
        | (go_at_call 27; refine hcl.out.mono ?_; rintro e w5 ⟨rfl, O5, hR5, hg5, hF5⟩; obtain ⟨T, ar, cr, hal, hWt, hTt⟩ := all_any hR5; have hfin := Lib.hid (And.intro (hFH.out.trans hgH.out hF5) (And.intro hWt hTt)); have halH := Lib.hid hal; clear hR5 hg5 hF5 hal hWt hTt)
        | (go_at_call 28; refine halH.out.mono ?_; rintro e w6 ⟨rfl, rfl⟩))
      go_ret2
      obtain ⟨f1, f2, f3⟩ := hfin.out
      exact ⟨((Below.refl _ _).alloc (Nat.le_refl _) _).trans (f1.toBelow (fun g e => by rw [e]; exact Nat.le_refl _) (by simp)), .inr ⟨_, ar, cr, T, hover.out, rfl, f2, f3⟩⟩

theorem parts_any : ∀ (kk : Nat) (d : Int), d + kk = 24 → 0 ≤ d → ∀ (s : ByteArray) (k : Int) (w : World), s.size ≤ 65536 → (k = 0 ∨ k = 1 ∨ k = 2) → Calls Try.prog 16 #[.string s, .int .i64 k, .int .i64 d] w (PartsR (partsM kk s k) (kk + 1) w)
  | 0, d, hd, hd0 => fun s k w hs hk => over_any _ 0 d hd hd0 (fun h => absurd h (by omega)) (fun _ _ _ h => by cases h) s k w hs hk
  | kk + 1, d, hd, hd0 => fun s k w hs hk => over_any _ (kk + 1) d hd hd0 (fun _ s k w hs hk => parts_any kk (d + 1) (by omega) (by omega) s k w hs hk) (parts_ok kk) s k w hs hk
end Go.Proofs.Ytgpkhpheomaiaaa
