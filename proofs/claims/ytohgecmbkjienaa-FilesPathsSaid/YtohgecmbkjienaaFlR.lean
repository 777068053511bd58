/- Bytes, Count. Condition: the tree lies as stated. -/
import Derived.Test.YtohgecmbkjienaaFlQ
import Derived.RegionIn
import Derived.Test.YtohgecmbkjienaaLxQR
namespace Go.Proofs.Ytohgecmbkjienaa
open Go.RowKit Go.Shelf Go.PlainAid
attribute [local go_sem] Oper.semAt_some

theorem sum_lives (L : Nat → Nat) : ∀ (ps : List (Option Nat)) (f : Fs), ps.length = f.length → (∀ (i : Nat) I, f[i]? = some (some I) → ∃ q, ps[i]? = some (some q) ∧ L q = I.data.length) → (∀ i : Nat, f[i]? = some none → ps[i]? = some none) → ((lives ps).map L).sum = bytesM f
  | [], [], _, _, _ => rfl
  | [], _ :: _, h, _, _ => by simp at h
  | _ :: _, [], h, _, _ => by simp at h
  | o :: ps, x :: f, h, h1, h2 => by
    have ih := sum_lives L ps f (by simpa using h) (fun i I hi => by have := h1 (i + 1) I (by simpa using hi); simpa using this) (fun i hi => by have := h2 (i + 1) (by simpa using hi); simpa using this)
    cases x with
    | none =>
      have e : o = none := by simpa using h2 0 rfl
      subst e
      exact ih
    | some I =>
      obtain ⟨q, hq, hL⟩ := h1 0 I rfl
      have e : o = some q := by simpa using hq
      subst e
      have e2 : lives (some q :: ps) = q :: lives ps := rfl
      rw [e2, List.map_cons, List.sum_cons, ih, hL]
      rfl
theorem len_lives : ∀ (ps : List (Option Nat)) (f : Fs), ps.length = f.length → (∀ (i : Nat) I, f[i]? = some (some I) → ∃ q, ps[i]? = some (some q)) → (∀ i : Nat, f[i]? = some none → ps[i]? = some none) → (lives ps).length = countM f
  | [], [], _, _, _ => rfl
  | [], _ :: _, h, _, _ => by simp at h
  | _ :: _, [], h, _, _ => by simp at h
  | o :: ps, x :: f, h, h1, h2 => by
    have ih := len_lives ps f (by simpa using h) (fun i I hi => by have := h1 (i + 1) I (by simpa using hi); simpa using this) (fun i hi => by have := h2 (i + 1) (by simpa using hi); simpa using this)
    cases x with
    | none =>
      have e : o = none := by simpa using h2 0 rfl
      subst e
      exact ih
    | some I =>
      obtain ⟨q, hq⟩ := h1 0 I rfl
      have e : o = some q := by simpa using hq
      subst e
      have e2 : lives (some q :: ps) = q :: lives ps := rfl
      rw [e2, List.length_cons, ih]
      rfl
theorem count_le : ∀ f : Fs, countM f ≤ f.length
  | [] => Nat.le_refl _
  | none :: l => by have := count_le l; simp only [countM, List.length_cons]; omega
  | some _ :: l => by have := count_le l; simp only [countM, List.length_cons]; omega
theorem bytes_le (K : Nat) : ∀ f : Fs, (∀ (i : Nat) I, f[i]? = some (some I) → I.data.length ≤ K) → bytesM f ≤ f.length * K
  | [], _ => by simp [bytesM]
  | none :: l, h => by
    have := bytes_le K l (fun i I hi => h (i + 1) I (by simpa using hi))
    rw [bytesM, List.length_cons, Nat.succ_mul]
    omega
  | some I :: l, h => by
    have := bytes_le K l (fun i I hi => h (i + 1) I (by simpa using hi))
    have := h 0 I rfl
    rw [bytesM, List.length_cons, Nat.succ_mul]
    omega
theorem InvG.drew {n₀ : Nat} {X XT : Nat → Prop} {w0 W : World} {T : List Nat} (h : InvG n₀ X XT w0 T W) : InvG n₀ X XT w0 T W.drew := ⟨h.ts, h.os, h.tape, h.output, h.n0, h.block⟩
theorem KeepN.drew {n₀ : Nat} {S : Nat → Prop} {A B : World} (h : KeepN n₀ S A B) : KeepN n₀ S A B.drew := ⟨h.size, h.same⟩
section
variable {w : World} {B : Nat → Nat → Prop} {p : Nat} {f : Fs} {sv : Value} {ps : List (Option Nat)}
theorem FsAt.slots (h : FsAt w B p f sv ps) {w1 : World} (hb : Below w.heap.size w w1) {b : Nat} (hx : Blk w1 b 102 #[.pointer (some ⟨p, 0, none⟩)]) : SlotsAt w1 b p sv ps := ⟨hx, blk_beneath h.blk hb, row_beneath h.row hb⟩
set_option maxRecDepth 100000 in
set_option maxHeartbeats 2000000 in
theorem count_in (n : Nat) (hn : 3 ≤ n) (h : FsAt w B p f sv ps) (hlen : f.length ≤ 100000) : CallsIn Fence.wide n Try.prog 13 #[.pointer (some ⟨p, 0, none⟩)] w fun e w' => e = .returned (.int .i64 (countM f : Nat)) ∧ Below w.heap.size w w' := by
  have h1 : 1 ≤ n := by omega
  have hpl := h.lt 0 p h.bp
  obtain ⟨c, hc⟩ : ∃ c, w.heap.size = c := ⟨_, rfl⟩
  obtain ⟨w0, hw0⟩ : ∃ x, (w.alloc (.cells #[.int .i64 0] 3)).alloc (.cells #[.pointer (some ⟨p, 0, none⟩)] 102) = x := ⟨_, rfl⟩
  have hb0 : Below w.heap.size w w0 := by rw [← hw0]; exact (alB _ _).alloc (by simp) _
  have hs0 : w0.heap.size = c + 2 := by rw [← hw0]; simp [hc]
  have kc : Blk w0 c 3 #[.int .i64 0] := by rw [← hw0, ← hc]; exact (Blk.new _ _ _).alloc _
  have kb : Blk w0 (c + 1) 102 #[.pointer (some ⟨p, 0, none⟩)] := by rw [← hw0]; exact newB _ _ _ (by simp [hc])
  have hsl := h.slots hb0 kb
  have hsv : ∀ g, sv.ownBlock = some g → g < c := fun g hg => by have := h.lt 0 g (h.bs g hg); omega
  have hpsl : ps.length ≤ 100000 := by rw [h.len]; exact hlen
  have c0 : w.cell? ⟨p, 0, none⟩ = some sv := h.blk.cell 0
  have hw0H := Lib.hid hw0
  have hslH := Lib.hid hsl
  have hb0H := Lib.hid hb0
  have hcH := Lib.hid hc
  have hH := Lib.hid h
  clear h hw0 hsl hb0
  refine callsIn_of_wp_marks Try.func13 rfl trivial ?_ rfl
  simp only [Try.ntmps13, List.size_toArray, List.length_cons, List.length_nil, Nat.reduceAdd, Nat.reduceSub, Array.replicate_succ, Array.replicate_zero, List.push_toArray, List.append_toArray, List.nil_append, List.cons_append]
  gi_wp2_with (refine ⟨trivial, ?_⟩; gi_at_call 33; refine (callsIn_wide.2 (all_any p _)).mono ?_; rintro e w' ⟨rfl, rfl⟩)
  rw [hw0H.out]
  apply range_law rfl h1 (gf := 61) (lb := #[.pointer (some ⟨c + 1, 0, none⟩)]) rfl trivial (enters_of Try.func61 (by kernel_rfl) rfl)
    (all_stops (n - 1) (by omega) w0.heap.size (c + 1) p sv ps (fun g => g = c) w0 hslH.out (by omega) (by omega) (fun g hg => by have := hsv g hg; omega) hpsl) (fun k hk => by cases hk) (fun _ _ _ _ _ _ _ hk h => keepN_b hk h) (Below.refl _ _) (fun _ => rfl)
    (fun T pre W => InvG w0.heap.size (fun g => g = c) (fun _ => False) w0 T W ∧ Blk W c 3 #[.int .i64 ((pre.length : Nat) : Int)]) (fun _ _ _ _ => False) (fun T T' pre A B hi he => ⟨hi.1.ext (fun _ h => h.elim) he, blk_ext hi.2 hi.1.ts (by omega) (fun h => h) he⟩) (fun _ _ _ _ _ _ h _ => h) ⟨InvG.start (fun k hk => by cases hk) (Nat.le_refl _), kc⟩
    (fun q _ => { tmps := #[.pointer (some ⟨p, 0, none⟩), undef, .int .i64 0, .pointer (some ⟨c, 0, none⟩), .pointer (some ⟨p, 0, none⟩), .bool true, .pointer (some ⟨p, 0, none⟩), .pointer (some ⟨p, 0, none⟩), .pointer (some ⟨p, 0, none⟩), .func (.func 61) #[] #[.pointer (some ⟨c + 1, 0, none⟩)], .pointer (some ⟨q, 0, none⟩), undef, undef, undef], defers := [] }) (fun _ W => W) (fun _ _ => Below.refl _ _) (fun _ _ _ _ h => h) ?assign ?body ?done ?stop
  case assign =>
    intro l x W K hK
    dsimp only [encN]
    gi_wp2
    simpa using hK
  case body =>
    intro l T pre x W W' o hsp _ _ hW' ⟨hI, hC⟩
    clear hW'
    have y0 : W'.cell? ⟨c, 0, none⟩ = some (.int .i64 ((pre.length : Nat) : Int)) := hC.cell 0
    have g0 : W'.frozen? ⟨c, 0, none⟩ = false := hC.frozen 0
    have hl3 : pre.length ≤ 100000 := by
      have h9 := hsp.length_le
      have h8 := lives_len ps ps.length
      rw [List.take_length] at h8
      simp at h9
      omega
    have hIH := Lib.hid hI
    have hCH := Lib.hid hC
    clear hI hC
    gi_wp2
    refine ⟨⟨hIH.out.set (.inl rfl) _, ?_⟩, keepsT hIH.out (by simp) (fun g hg _ => Below.heap_setCell _ _ _ _ (fun e => by
      have e' : g = c := e
      rcases hg with h | h
      · omega
      · exact h)), keepN_set (S := fun g => g = c) (KeepN.refl _ _ _) (.inl rfl) _⟩
    have h9 := hCH.out.set_ 0 (.int .i64 ((pre.length : Int) + 1))
    rw [show ((pre ++ [x]).length : Nat) = pre.length + 1 by simp]
    exact h9
  case done =>
    rintro D T xs W hD _ rfl ⟨hI, hC⟩ hK
    have y0 : W.cell? ⟨c, 0, none⟩ = some (.int .i64 (countM f : Nat)) := by rw [← len_lives ps f hH.out.len (fun i I hi => by obtain ⟨q, hq, _⟩ := hH.out.some_ i I hi; exact ⟨q, hq⟩) hH.out.none_]; exact hC.cell 0
    have hIH := Lib.hid hI
    have hKH := Lib.hid hK
    clear hI hK hC
    gi_wp2
    refine ⟨by simp, .inl ⟨_, _, rfl, run_takeDeferred hKH.out, ?_⟩⟩
    refine ⟨_, results_tmp rfl _ _ _, rfl, ?_⟩
    exact (hIH.out.toBelow hb0H.out (fun g hg => by have := hcH.out; omega) (Nat.le_refl _)).trans (belowK_b (w := w) (Nat.le_refl _) W D _ _ (by rw [hs0] at hD; have := hcH.out; omega) hKH.out rfl rfl)
  case stop =>
    rintro D c T pre W _ _ _ h _
    exact h.elim
set_option maxRecDepth 100000 in
set_option maxHeartbeats 2000000 in
theorem bytes_in (n : Nat) (hn : 3 ≤ n) (h : FsAt w B p f sv ps) (hlen : f.length ≤ 100000) (hdl : ∀ (i : Nat) I, f[i]? = some (some I) → I.data.length ≤ 70000) (hlf : f.length ≤ 10000) : CallsIn Fence.wide n Try.prog 12 #[.pointer (some ⟨p, 0, none⟩)] w fun e w' => e = .returned (.int .i64 (bytesM f : Nat)) ∧ Below w.heap.size w w' := by
  have h1 : 1 ≤ n := by omega
  have hpl := h.lt 0 p h.bp
  obtain ⟨c, hc⟩ : ∃ c, w.heap.size = c := ⟨_, rfl⟩
  obtain ⟨w0, hw0⟩ : ∃ x, (w.alloc (.cells #[.int .i64 0] 3)).alloc (.cells #[.pointer (some ⟨p, 0, none⟩)] 102) = x := ⟨_, rfl⟩
  have hb0 : Below w.heap.size w w0 := by rw [← hw0]; exact (alB _ _).alloc (by simp) _
  have hs0 : w0.heap.size = c + 2 := by rw [← hw0]; simp [hc]
  have kc : Blk w0 c 3 #[.int .i64 0] := by rw [← hw0, ← hc]; exact (Blk.new _ _ _).alloc _
  have kb : Blk w0 (c + 1) 102 #[.pointer (some ⟨p, 0, none⟩)] := by rw [← hw0]; exact newB _ _ _ (by simp [hc])
  have hsl := h.slots hb0 kb
  have hsv : ∀ g, sv.ownBlock = some g → g < c := fun g hg => by have := h.lt 0 g (h.bs g hg); omega
  have hpsl : ps.length ≤ 100000 := by rw [h.len]; exact hlen
  have c0 : w.cell? ⟨p, 0, none⟩ = some sv := h.blk.cell 0
  obtain ⟨L, hL⟩ : ∃ L : Nat → Nat, L = fun q => match w.cell? ⟨q, 4, none⟩ with | some (.slice _ n _) => n | _ => 0 := ⟨_, rfl⟩
  have hLH : Hid (∀ (q : Nat) (I : Ino) (dv ev : Value) (S : Nat → Prop), InoAt w S q I dv ev → L q = I.data.length) := Lib.hid (fun q I dv ev S hI => by
    obtain ⟨a, d, rfl⟩ := ownsRow_slice hI.dat
    have h9 : w.cell? ⟨q, 4, none⟩ = some (.slice a I.data.length d) := hI.blk.cell 4
    rw [hL]
    show (match w.cell? ⟨q, 4, none⟩ with | some (.slice _ n _) => n | _ => 0) = _
    rw [h9])
  have hLxH : Hid (∀ x ∈ lives ps, ∃ a d, w.cell? ⟨x, 4, none⟩ = some (.slice a (L x) d) ∧ x < c ∧ True) := Lib.hid (fun x hx => by
    obtain ⟨o, ho, he⟩ := List.mem_filterMap.1 hx
    obtain ⟨i, hi⟩ := List.mem_iff_getElem?.1 ho
    have he' : o = some x := he
    subst he'
    have hif : i < f.length := by rw [← h.len]; exact (List.getElem?_eq_some_iff.1 hi).1
    cases hf : f[i] with
    | none => have := h.none_ i (by rw [List.getElem?_eq_getElem hif, hf]); rw [hi] at this; cases this
    | some I =>
      obtain ⟨q, hq, dv, ev, hI2⟩ := h.some_ i I (by rw [List.getElem?_eq_getElem hif, hf])
      rw [hi] at hq
      cases hq
      obtain ⟨a, d, rfl⟩ := ownsRow_slice hI2.dat
      have h9 : w.cell? ⟨x, 4, none⟩ = some (.slice a I.data.length d) := hI2.blk.cell 4
      refine ⟨a, d, ?_, by rw [← hc]; exact hI2.lt x hI2.sq, trivial⟩
      rw [hLH.out x I _ _ _ hI2]
      exact h9)
  have hTot : Hid (∀ pre, pre <+: lives ps → (pre.map L).sum ≤ 700000000) := Lib.hid (fun pre hp => by
    obtain ⟨t, ht⟩ := hp
    have h9 := sum_lives L ps f h.len (fun i I hi => by obtain ⟨q, hq, dv, ev, hI2⟩ := h.some_ i I hi; exact ⟨q, hq, hLH.out q I dv ev _ hI2⟩) h.none_
    rw [← ht, List.map_append, List.sum_append] at h9
    have h8 := bytes_le 70000 f hdl
    have h7 := Nat.mul_le_mul_right 70000 hlf
    omega)
  have hw0H := Lib.hid hw0
  have hslH := Lib.hid hsl
  have hb0H := Lib.hid hb0
  have hcH := Lib.hid hc
  have hH := Lib.hid h
  clear h hw0 hsl hb0
  refine callsIn_of_wp_marks Try.func12 rfl trivial ?_ rfl
  simp only [Try.ntmps12, List.size_toArray, List.length_cons, List.length_nil, Nat.reduceAdd, Nat.reduceSub, Array.replicate_succ, Array.replicate_zero, List.push_toArray, List.append_toArray, List.nil_append, List.cons_append]
  gi_wp2_with (refine ⟨trivial, ?_⟩; gi_at_call 33; refine (callsIn_wide.2 (all_any p _)).mono ?_; rintro e w' ⟨rfl, rfl⟩)
  rw [hw0H.out]
  apply range_law rfl h1 (gf := 61) (lb := #[.pointer (some ⟨c + 1, 0, none⟩)]) rfl trivial (enters_of Try.func61 (by kernel_rfl) rfl)
    (all_stops (n - 1) (by omega) w0.heap.size (c + 1) p sv ps (fun g => g = c) w0 hslH.out (by omega) (by omega) (fun g hg => by have := hsv g hg; omega) hpsl) (fun k hk => by cases hk) (fun _ _ _ _ _ _ _ hk h => keepN_b hk h) (Below.refl _ _) (fun _ => rfl)
    (fun T pre W => InvG w0.heap.size (fun g => g = c) (fun _ => False) w0 T W ∧ Blk W c 3 #[.int .i64 (((pre.map L).sum : Nat) : Int)]) (fun _ _ _ _ => False) (fun T T' pre A B hi he => ⟨hi.1.ext (fun _ h => h.elim) he, blk_ext hi.2 hi.1.ts (by omega) (fun h => h) he⟩) (fun _ _ _ _ _ _ h _ => h) ⟨InvG.start (fun k hk => by cases hk) (Nat.le_refl _), kc⟩
    (fun q _ => { tmps := #[.pointer (some ⟨p, 0, none⟩), undef, .int .i64 0, .pointer (some ⟨c, 0, none⟩), .pointer (some ⟨q, 0, none⟩), .pointer (some ⟨p, 0, none⟩), .bool true, .pointer (some ⟨p, 0, none⟩), .pointer (some ⟨p, 0, none⟩), .pointer (some ⟨p, 0, none⟩), .func (.func 61) #[] #[.pointer (some ⟨c + 1, 0, none⟩)], .pointer (some ⟨q, 0, none⟩), undef, undef, undef, undef, undef, undef, undef, undef], defers := [] }) (fun _ W => W) (fun _ _ => Below.refl _ _) (fun _ _ _ _ h => h) ?assign ?body ?done ?stop
  case assign =>
    intro l x W K hK
    dsimp only [encN]
    gi_wp2
    simpa using hK
  case body =>
    intro l T pre x W W' o hsp _ _ hW' ⟨hI, hC⟩
    clear hW'
    have y0 : W'.cell? ⟨c, 0, none⟩ = some (.int .i64 (((pre.map L).sum : Nat) : Int)) := hC.cell 0
    have g0 : W'.frozen? ⟨c, 0, none⟩ = false := hC.frozen 0
    obtain ⟨a, d, k1, hxl, k2⟩ := hLxH.out x (hsp.subset (by simp))
    have z4 : W'.cell? ⟨x, 4, none⟩ = some (.slice a (L x) d) := (World.cell?_of_block (a := ⟨x, 4, none⟩) (hI.block x (by omega) (by omega))).trans ((hb0H.out.cell (by have := hcH.out; exact (by omega : x < w.heap.size))).trans k1)
    have hsum : (pre.map L).sum + L x ≤ 800000000 := by
      have h9 := hTot.out (pre ++ [x]) hsp
      rw [List.map_append, List.sum_append] at h9
      simp at h9
      omega
    have hSH : Hid (((pre ++ [x]).map L).sum = (pre.map L).sum + L x) := Lib.hid (by rw [List.map_append, List.sum_append]; simp)
    obtain ⟨m, hm⟩ : ∃ m, (pre.map L).sum = m := ⟨_, rfl⟩
    rw [hm] at y0 hsum hSH hC
    obtain ⟨k, hk⟩ : ∃ k, L x = k := ⟨_, rfl⟩
    rw [hk] at z4 hsum hSH
    have hIH := Lib.hid hI
    have hCH := Lib.hid hC
    clear hI hC hm hk
    gi_wp2
    gi_region
    all_goals
      gi_wp2
      have hwr : IntKind.i64.wrap ((m : Int) + (k : Int)) = ((m + k : Nat) : Int) := by rw [IntKind.wrap_i64]; omega
      rw [hwr]
      refine ⟨⟨(hIH.out.set (c := c) (o := 0) (.inl rfl) (.int .i64 ((m + k : Nat) : Int))).drew, ?_⟩, keepsT hIH.out (by simp [World.drew]) (fun g hg _ => Below.heap_setCell _ _ _ _ (fun e => by
        have e' : g = c := e
        rcases hg with h | h
        · omega
        · exact h)), (keepN_set (S := fun g => g = c) (KeepN.refl w0.heap.size _ W') (.inl rfl) (.int .i64 ((m + k : Nat) : Int))).drew⟩
      rw [hSH.out]
      exact hCH.out.set_ 0 (.int .i64 ((m + k : Nat) : Int))
  case done =>
    rintro D T xs W hD _ rfl ⟨hI, hC⟩ hK
    have y0 : W.cell? ⟨c, 0, none⟩ = some (.int .i64 (bytesM f : Nat)) := by rw [← sum_lives L ps f hH.out.len (fun i I hi => by obtain ⟨q, hq, dv, ev, hI2⟩ := hH.out.some_ i I hi; exact ⟨q, hq, hLH.out q I dv ev _ hI2⟩) hH.out.none_]; exact hC.cell 0
    have hIH := Lib.hid hI
    have hKH := Lib.hid hK
    clear hI hK hC
    gi_wp2
    refine ⟨by simp, .inl ⟨_, _, rfl, run_takeDeferred hKH.out, ?_⟩⟩
    refine ⟨_, results_tmp rfl _ _ _, rfl, ?_⟩
    exact (hIH.out.toBelow hb0H.out (fun g hg => by have := hcH.out; omega) (Nat.le_refl _)).trans (belowK_b (w := w) (Nat.le_refl _) W D _ _ (by rw [hs0] at hD; have := hcH.out; omega) hKH.out rfl rfl)
  case stop =>
    rintro D c T pre W _ _ _ h _
    exact h.elim
theorem bytes_any (h : FsAt w B p f sv ps) (hf : FineF f) : Calls Try.prog 12 #[.pointer (some ⟨p, 0, none⟩)] w fun e w' => e = .returned (.int .i64 (bytesM f : Nat)) ∧ Below w.heap.size w w' := callsIn_wide.1 (bytes_in 3 (Nat.le_refl _) h (by have := hf.1; omega) (fun i I hi => (hf.2 i I hi).dl) hf.1)
theorem count_any (h : FsAt w B p f sv ps) (hlen : f.length ≤ 100000) : Calls Try.prog 13 #[.pointer (some ⟨p, 0, none⟩)] w fun e w' => e = .returned (.int .i64 (countM f : Nat)) ∧ Below w.heap.size w w' := callsIn_wide.1 (count_in 3 (Nat.le_refl _) h hlen)
theorem count_nil (w : World) : Calls Try.prog 13 #[.pointer none] w fun e w' => e = .returned (.int .i64 0) ∧ Below w.heap.size w w' := by
  go_enter Try.func13, Try.ntmps13
  go_wp2
  go_ret
  exact ⟨rfl, alB _ _⟩
theorem bytes_nil (w : World) : Calls Try.prog 12 #[.pointer none] w fun e w' => e = .returned (.int .i64 0) ∧ Below w.heap.size w w' := by
  go_enter Try.func12, Try.ntmps12
  go_wp2
  go_ret
  exact ⟨rfl, alB _ _⟩
end
end Go.Proofs.Ytohgecmbkjienaa
