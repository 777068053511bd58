/- The worker over form: work. Condition: the maker lies as stated, the text is short. -/
import Derived.Test.YtjbmpockoicgmaaGreatFoW
import Derived.Maps.OwnIn
import Derived.Test.YtjbmpockoicgmaaGreatArY
namespace Go.Proofs.YtjbmpockoicgmaaGreat.F
open Go.RowKit Go.Shelf Go.PlainAid
open I (toksF_ok infoTk tcs_all tk_of_row)
set_option linter.unusedVariables false
set_option linter.unusedSimpArgs false
attribute [local go_sem] Oper.semAt_some

theorem NAt.putD {S : Nat → Prop} {np : Nat} {W : World} {m : Nm} (h : NAt S np W m) {D : Nat} {o : Option (List Deferred)} (hD : W.heap[D]? = some (Obj.deferred o)) (o' : Option (List Deferred)) : NAt S np (W.putObj D (Obj.deferred o')) m := trivial
theorem NAt.widen {S S' : Nat → Prop} {np : Nat} {w W : World} {m : Nm} (h : NAt S np w m) (hb : Below w.heap.size w W) (h1 : ∀ g, S g → S' g) (h2 : ∀ g, S' g → S g ∨ w.heap.size ≤ g) : NAt S' np W m := trivial
theorem fr_putD {S S' : Nat → Prop} {w W : World} (h : Fr S w S' W) {D : Nat} (hD : w.heap.size ≤ D) (o : Obj) : Fr S w S' (W.putObj D o) :=
  ⟨h.os, h.tape, h.output, by rw [World.putObj_size]; exact h.size, fun g h1 h2 => (World.putObj_heap_other (by omega)).trans (h.block g h1 h2), h.new⟩
theorem belD (w : World) : Below w.heap.size w w.drew := ⟨rfl, rfl, rfl, Nat.le_refl _, fun _ _ => rfl⟩
theorem belDN (w : World) (n : Nat) : Below w.heap.size w (w.drewN n) := ⟨rfl, rfl, rfl, Nat.le_refl _, fun _ _ => rfl⟩
theorem work_zero {l : List Tk} {m : Nm} (h : (l.headD tk0).kind = 0) : workM NM l m = ((), 0, m) := by unfold workM; rw [if_pos h]
theorem work_one {l : List Tk} {m : Nm} (h : (l.headD tk0).kind ≠ 0) {r : I64 × Ws Nm} (hr : go NM (6 * l.length + 5) .asg ⟨l, 0, 0, 0, m⟩ = r) (h0 : (peekM r.2).kind = 0) : workM NM l m = (r.1, r.2.err, r.2.ms) := by unfold workM; rw [if_neg h, hr]; dsimp only; rw [if_pos h0]
theorem work_two {l : List Tk} {m : Nm} (h : (l.headD tk0).kind ≠ 0) {r : I64 × Ws Nm} (hr : go NM (6 * l.length + 5) .asg ⟨l, 0, 0, 0, m⟩ = r) (h0 : (peekM r.2).kind ≠ 0) : workM NM l m = (r.1, (failM 60 r.2).err, (failM 60 r.2).ms) := by unfold workM; rw [if_neg h, hr]; dsimp only; rw [if_neg h0]
set_option maxRecDepth 100000 in
set_option maxHeartbeats 8000000 in
theorem work_in (n : Nat) (hn : 3 ≤ n) (np : Nat) (S0 : Nat → Prop) (w : World) (m : Nm) (s : ByteArray) (hs : s.size ≤ 100000) (hm : NAt S0 np w m) (hlt : ∀ g, S0 g → g < w.heap.size) :
    CallsIn Fence.wide n Tryz.prog 15 #[.string s, mv np] w fun e w' => e = .returned (.tuple #[un, .int .i64 (workM NM (toksM s) m).2.1]) ∧ ∃ S', NAt S' np w' (workM NM (toksM s) m).2.2 ∧ Fr S0 w S' w' := by
  have h1 : 1 ≤ n := by omega
  have h49 := ld49
  have s49 := st49
  obtain ⟨b, hb⟩ : ∃ b, w.heap.size + 1 = b := ⟨_, rfl⟩
  obtain ⟨w0, hw0⟩ : ∃ x, (((w.alloc o49).alloc (.cells #[mv np, .slice none 0 0, .int .i64 0, .int .i64 0, .int .i64 0] 73)).alloc (.cells #[ptr b] 71)).alloc (.cells #[.string s] 9) = x := ⟨_, rfl⟩
  have hb0 : Below w.heap.size w w0 := by rw [← hw0]; exact belAl (belAl (belAl (alB _ _) _) _) _
  have hs0 : w0.heap.size = b + 3 := by rw [← hw0, ← hb]; simp
  have kb : Blk w0 b 73 #[mv np, .slice none 0 0, .int .i64 0, .int .i64 0, .int .i64 0] := by rw [← hw0]; exact ((newB _ _ _ (by simp [hb])).alloc _).alloc _
  have kp : Blk w0 (b + 1) 71 #[ptr b] := by rw [← hw0]; exact (newB _ _ _ (by simp; omega)).alloc _
  have kB : Blk w0 (b + 2) 9 #[.string s] := by rw [← hw0]; exact newB _ _ _ (by simp; omega)
  obtain ⟨i0, hi0, hz0, hz1, hz2⟩ := info_parts infoTk
  have hst := tokens_stops (n - 1) (by omega) (b + 2) s hs w0 kB
  have hTl := toksF_len s (s.size + 1) 0
  have hTo := toksF_ok s hs (s.size + 1) 0
  have hwk := Lib.hid (show workM NM (toksM s) m = workM NM (toksF s (s.size + 1) 0) m from rfl)
  rw [show toksM s = toksF s (s.size + 1) 0 from rfl] at hst ⊢
  obtain ⟨TL, hTL⟩ : ∃ TL, toksF s (s.size + 1) 0 = TL := ⟨_, rfl⟩
  rw [hTL] at hst hTl hTo ⊢
  have hw0H := Lib.hid hw0
  have hb0H := Lib.hid hb0
  have hbH := Lib.hid hb
  have hstH := Lib.hid hst
  have hi0H := Lib.hid hi0
  have htlH := Lib.hid hTl
  have htoH := Lib.hid hTo
  have hmH := Lib.hid hm
  have hltH := Lib.hid hlt
  have hs0H := Lib.hid hs0
  have hI0 : WkI b (b + 1) np w [b + 2] [] w0 := ⟨hb0, fun k hk => by rw [List.mem_singleton] at hk; omega, kp, _, kb, World.ownsRow_nil _ _ _ _, fun g hg => by simp [Value.ownBlock] at hg⟩
  clear hm hlt hw0 hb0 hst hi0 hTl hTo hwk hTL
  refine callsIn_of_wp_marks Tryz.func15 rfl trivial ?_ rfl
  simp only [Tryz.ntmps15, List.size_toArray, List.length_cons, List.length_nil, Nat.reduceAdd, Nat.reduceSub, Array.replicate_succ, Array.replicate_zero, List.push_toArray, List.append_toArray, List.nil_append, List.cons_append]
  gi_wp2_with (refine ⟨trivial, ?_⟩; gi_at_call 16; refine (callsIn_wide.2 (tokens_any s _)).mono ?_; rintro e w' ⟨rfl, rfl⟩)
  rw [hw0H.out]
  apply range_law rfl h1 (gf := 23) (lb := #[.pointer (some ⟨b + 2, 0, none⟩)]) rfl trivial (enters_of Tryz.func23 (by kernel_rfl) rfl)
    hstH.out (fun k hk => by rw [List.mem_singleton] at hk; have := hs0H.out; omega) (fun _ _ _ _ _ _ _ _ _ => trivial) (Below.refl _ _) (fun _ => rfl)
    (WkI b (b + 1) np w) (fun _ _ _ _ => False) wk_abide (fun _ _ _ _ _ _ h _ => h) hI0 ?_ (fun x W => W.alloc (.cells #[.int .i64 x.kind, .string x.text, .int .i64 x.num] 64)) (fun x W => alB W _) (fun _ _ _ _ _ => trivial) ?assign ?body ?done ?stop
  case assign =>
    intro l x W K hK
    dsimp only [encTk]
    gi_wp2
    simpa using hK
  case body =>
    intro l T pre x W W' o hsp hiW hlW hW' hI
    obtain ⟨hbel, hts, hvp, v, hBw, hR, hT⟩ := hI
    obtain ⟨av, cv, rfl⟩ := row_ge0 hR
    have hpl2 : pre.length + 1 ≤ 100001 := by
      have h9 := hsp.length_le
      rw [List.length_append] at h9
      have := htlH.out
      simp at h9
      omega
    obtain ⟨k, hk⟩ : ∃ k, pre.length = k := ⟨_, rfl⟩
    obtain ⟨q, hq⟩ : ∃ q, W.heap.size = q := ⟨_, rfl⟩
    have hB4 : Blk W' q 64 #[.int .i64 x.kind, .string x.text, .int .i64 x.num] := by
      rw [hW']
      exact (World.putObj_heap_other (by omega)).trans (newB W _ q hq)
    rw [hk] at hR hpl2 hBw
    rw [hq]
    have hbw := hbel.size
    have y0 : W'.cell? ⟨b, 1, none⟩ = some (.slice av k cv) := hBw.cell 1
    have p0 : W'.cell? ⟨b + 1, 0, none⟩ = some (ptr b) := hvp.cell 0
    have e0 : W'.cell? ⟨q, 0, none⟩ = some (.int .i64 x.kind) := hB4.cell 0
    have e1 : W'.cell? ⟨q, 1, none⟩ = some (.string x.text) := hB4.cell 1
    have e2 : W'.cell? ⟨q, 2, none⟩ = some (.int .i64 x.num) := hB4.cell 2
    obtain ⟨W2, hW2⟩ : ∃ W2, (W'.alloc (.cells #[.int .i64 x.kind, .string x.text, .int .i64 x.num] 64)).drew = W2 := ⟨_, rfl⟩
    have hb2 : Below W'.heap.size W' W2 := by rw [← hW2]; exact (alB _ _).drew
    have hN2 : Blk W2 W'.heap.size 64 #[.int .i64 x.kind, .string x.text, .int .i64 x.num] := by rw [← hW2]; exact Blk.new W' _ _
    have hs2 : W2.heap.size = W'.heap.size + 1 := by rw [← hW2]; simp [World.drew]
    have hR2 := row_beneath hR hb2
    have hW2H := Lib.hid hW2
    have hq9 : q < W'.heap.size := by have := hB4.lt; exact this
    have hB42 := blk_beneath hB4 hb2
    have hS2H := Lib.hid (show W2.cell? ⟨b + 1, 0, none⟩ = some (ptr b) ∧ W2.cell? ⟨b, 1, none⟩ = some (.slice av k cv) from ⟨(blk_beneath hvp hb2).cell 0, (blk_beneath hBw hb2).cell 1⟩)
    have hbelH := Lib.hid hbel
    have htsH := Lib.hid hts
    have hvpH := Lib.hid hvp
    have hBwH := Lib.hid hBw
    have hRH := Lib.hid hR
    have hTH := Lib.hid hT
    have hb2H := Lib.hid hb2
    have hkH := Lib.hid hk
    have hs2H := Lib.hid hs2
    have hN2H := Lib.hid hN2
    have hR2H := Lib.hid hR2
    have hz0H := Lib.hid hz0
    have hz1H := Lib.hid hz1
    have hz2H := Lib.hid hz2
    have hbwH := Lib.hid hbw
    have hpl2H := Lib.hid hpl2
    clear hbel hts hvp hBw hR hT hb2 hN2 hs2 hR2 hk hW2 hB4 hW' hiW hsp hz0 hz1 hz2
    have p0d : W'.drew.cell? ⟨b + 1, 0, none⟩ = some (ptr b) := p0
    have y0d : W'.drew.cell? ⟨b, 1, none⟩ = some (.slice av k cv) := y0
    have e0d : W'.drew.cell? ⟨q, 0, none⟩ = some (.int .i64 x.kind) := e0
    have e1d : W'.drew.cell? ⟨q, 1, none⟩ = some (.string x.text) := e1
    have e2d : W'.drew.cell? ⟨q, 2, none⟩ = some (.int .i64 x.num) := e2
    clear p0 y0 e0 e1 e2
    gi_wp2
    refine region_round (stop := 8) (S := fun Z => Z.cell? ⟨b + 1, 0, none⟩ = some (ptr b) ∧ Z.cell? ⟨b, 1, none⟩ = some (.slice av k cv)) (by kernel_rfl) (by kernel_rfl) (by rintro ⟨a, w, h⟩; exact h) ?_
    have hSd : W'.drew.cell? ⟨b + 1, 0, none⟩ = some (ptr b) ∧ W'.drew.cell? ⟨b, 1, none⟩ = some (.slice av k cv) := ⟨p0d, y0d⟩
    change Phased _ _ _ _ _ _ 11 #[false, false, false, false, false, false, false, false, false, false, false] _ W'.drew
    refine phased_take (i := 0) (v := ptr b) rfl (by decide) (by kernel_rfl) (by kernel_rfl) (by kernel_rfl) (by kernel_rfl) (fun _ _ _ h => h) (Or.inl ⟨by rfl, fun Z hZ => ?_⟩) hSd ?_
    · obtain ⟨z0, z1⟩ := hZ
      go_simp
    try simp only [Act.put, List.setIfInBounds_toArray, List.set_cons_zero, List.set_cons_succ]
    refine phased_take (i := 1) (v := ptr b) rfl (by decide) (by kernel_rfl) (by kernel_rfl) (by kernel_rfl) (by kernel_rfl) (fun _ _ _ h => h) (Or.inl ⟨by rfl, fun Z hZ => ?_⟩) hSd ?_
    · obtain ⟨z0, z1⟩ := hZ
      go_simp
    try simp only [Act.put, List.setIfInBounds_toArray, List.set_cons_zero, List.set_cons_succ]
    refine phased_take (i := 2) (v := ptr b) rfl (by decide) (by kernel_rfl) (by kernel_rfl) (by kernel_rfl) (by kernel_rfl) (fun _ _ _ h => h) (Or.inl ⟨by rfl, fun Z hZ => ?_⟩) hSd ?_
    · obtain ⟨z0, z1⟩ := hZ
      go_simp
    try simp only [Act.put, List.setIfInBounds_toArray, List.set_cons_zero, List.set_cons_succ]
    refine phased_take (i := 3) (v := .pointer (some ⟨b, 1, none⟩)) rfl (by decide) (by kernel_rfl) (by kernel_rfl) (by kernel_rfl) (by kernel_rfl) (fun _ _ _ h => h) (Or.inl ⟨by rfl, fun Z hZ => ?_⟩) hSd ?_
    · obtain ⟨z0, z1⟩ := hZ
      go_simp
    try simp only [Act.put, List.setIfInBounds_toArray, List.set_cons_zero, List.set_cons_succ]
    refine phased_take (i := 4) (v := .slice av k cv) rfl (by decide) (by kernel_rfl) (by kernel_rfl) (by kernel_rfl) (by kernel_rfl) (fun _ _ _ h => h) (Or.inl ⟨by rfl, fun Z hZ => ?_⟩) hSd ?_
    · obtain ⟨z0, z1⟩ := hZ
      go_simp
    try simp only [Act.put, List.setIfInBounds_toArray, List.set_cons_zero, List.set_cons_succ]
    refine phased_ready (rs := [5]) (by kernel_rfl) (by simp) ?_
    refine PhReady.cons rfl (fun K hK => ?_) PhReady.nil
    go_simp
    refine hK _ _ (fun _ => hSd) ?_
    clear hK K
    try simp only [Act.put, List.setIfInBounds_toArray, List.set_cons_zero, List.set_cons_succ]
    refine phased_ready (rs := [6]) (by kernel_rfl) (by simp) ?_
    refine PhReady.cons rfl (fun K hK => ?_) PhReady.nil
    clear hSd p0d y0d e0d e1d e2d
    go_simp
    rw [hW2H.out]
    refine hK _ _ (fun _ => hS2H.out) ?_
    clear hK K
    try simp only [Act.put, List.setIfInBounds_toArray, List.set_cons_zero, List.set_cons_succ]
    refine phased_ready (rs := [7]) (by kernel_rfl) (by simp) ?_
    refine PhReady.cons rfl (fun K hK => ?_) PhReady.nil
    refine step_append_lies _ (by rfl) _ _ _ (by rfl) w.heap.size 64 i0 _ 3 32 Tryz.underlying57 hi0H.out hz0H.out hz1H.out hz2H.out rfl (by omega) (.slice av k cv) k (flat tcs pre) (by rfl) hR2H.out
      ⟨W'.heap.size, 0, none⟩ 1 1 (tcs x) (by rfl) (by rfl) (fun j u hj => (by rw [Addr.add_lit, Nat.zero_add, hN2H.out.cell j]; simpa [tcs] using hj)) (fun u hu => tcs_all [x] u (by simpa [flat] using hu))
      (by omega) (by have := hpl2H.out; unfold maxLen; omega) (by have := hpl2H.out; omega) (by have := hs2H.out; have := hbelH.out.size; omega) W2.heap.size rfl ?_
    intro gg cap w5 hown5 hgr5 hat5 hlt5
    have hB5 : Blk w5 b 73 #[mv np, .slice av k cv, .int .i64 0, .int .i64 0, .int .i64 0] := (hgr5.block b (by have := hBwH.out.lt; have := hs2H.out; omega) (fun e => row_off hBwH.out (by decide) hRH.out e)).trans (blk_beneath hBwH.out hb2H.out)
    have hp5 : Blk w5 (b + 1) 71 #[ptr b] := (hgr5.block (b + 1) (by have := hvpH.out.lt; have := hs2H.out; omega) (fun e => row_off hvpH.out (by decide) hRH.out e)).trans (blk_beneath hvpH.out hb2H.out)
    have y5 : w5.cell? ⟨b, 1, none⟩ = some (.slice av k cv) := hB5.cell 1
    have g5 : w5.frozen? ⟨b, 1, none⟩ = false := hB5.frozen 1
    have p5 : w5.cell? ⟨b + 1, 0, none⟩ = some (ptr b) := hp5.cell 0
    have hownH := Lib.hid hown5
    have hgrH := Lib.hid hgr5
    have hatH := Lib.hid hat5
    have hltH := Lib.hid hlt5
    have hB5H := Lib.hid hB5
    have hp5H := Lib.hid hp5
    clear hown5 hgr5 hat5 hlt5 hB5 hp5
    refine hK _ _ (fun _ => ⟨p5, y5⟩) ?_
    clear hK K
    try simp only [Act.put, List.setIfInBounds_toArray, List.set_cons_zero, List.set_cons_succ]
    refine phased_of_any _ _ _ _ (by decide) ?_
    refine wpAny_ready (rs := [8]) (by kernel_rfl) (by simp) ?_
    refine AllReady.cons rfl (fun K hK => ?_) AllReady.nil
    go_simp
    refine hK _ _ ?_
    clear hK K
    try simp only [Act.put, List.setIfInBounds_toArray, List.set_cons_zero, List.set_cons_succ]
    refine wpAny_ready (rs := [9]) (by kernel_rfl) (by simp) ?_
    refine AllReady.cons rfl (fun K hK => ?_) AllReady.nil
    go_simp
    refine hK _ _ ?_
    clear hK K
    try simp only [Act.put, List.setIfInBounds_toArray, List.set_cons_zero, List.set_cons_succ]
    refine wpAny_ready (rs := [10]) (by kernel_rfl) (by simp) ?_
    refine AllReady.cons rfl (fun K hK => ?_) AllReady.nil
    go_simp
    refine hK _ _ ?_
    clear hK K
    try simp only [Act.put, List.setIfInBounds_toArray, List.set_cons_zero, List.set_cons_succ]
    refine wpAny_done (by kernel_rfl) ?_ _
    gi_wp2
    have hrow : ∀ g, (Value.slice av k cv).ownBlock = some g → w.heap.size ≤ g ∧ g < W'.heap.size ∧ g ∉ T := fun g hg => ⟨by rcases hRH.out.2 with ⟨h9, _⟩ | ⟨g9, _, _, h9, hg0, _⟩ <;> rw [h9] at hg <;> simp [Value.ownBlock] at hg; omega, row_lt hRH.out hg, hTH.out g (by rw [hkH.out]; exact hg)⟩
    have hs22 := hs2H.out
    have hb9 := hbH.out
    have hbw9 := hbwH.out
    have hvl := hvpH.out.lt
    have hnew : ∀ g, (Value.slice (some ⟨gg, 0, none⟩) (k + 1) cap).ownBlock = some g → w.heap.size ≤ g ∧ g ∉ T ∧ g ≠ b ∧ g ≠ b + 1 := fun g hg => by
      obtain rfl : gg = g := Option.some.inj hg
      rcases hatH.out with h9 | h9
      · have h10 := hrow gg h9
        exact ⟨h10.1, h10.2.2, fun e => row_off hBwH.out (by decide) hRH.out (by rw [← e]; exact h9.symm), fun e => row_off hvpH.out (by decide) hRH.out (by rw [← e]; exact h9.symm)⟩
      · refine ⟨by omega, fun hm => by have := (htsH.out gg hm).2.2.2; omega, by omega, by omega⟩
    have hfar : ∀ g, g < W'.heap.size → (Value.slice av k cv).ownBlock ≠ some g → g ≠ b → (w5.setCell ⟨b, 1, none⟩ (.slice (some ⟨gg, 0, none⟩) (k + 1) cap)).heap[g]? = W'.heap[g]? := fun g h1 h2 h3 =>
      (Below.heap_setCell _ _ _ _ (fun e => h3 e)).trans ((hgrH.out.block g (by omega) (fun e => h2 e.symm)).trans (hb2H.out.block g h1))
    have hsz : W'.heap.size ≤ (w5.setCell ⟨b, 1, none⟩ (.slice (some ⟨gg, 0, none⟩) (k + 1) cap)).heap.size := by
      rw [World.size_setCell]
      have := hgrH.out.size
      omega
    refine ⟨⟨⟨?_, ?_, ?_, Nat.le_trans hbw9 hsz, fun g hg => (hfar g (by omega) (fun e => by have := (hrow g e).1; omega) (by omega)).trans (hbelH.out.block g hg)⟩, fun t ht => ⟨(htsH.out t ht).1, (htsH.out t ht).2.1, (htsH.out t ht).2.2.1, Nat.lt_of_lt_of_le (htsH.out t ht).2.2.2 hsz⟩, ?_, .slice (some ⟨gg, 0, none⟩) (k + 1) cap, ?_, ?_, fun g hg => (hnew g hg).2.1⟩, ⟨hsz, fun t ht hl => hfar t hl (fun e => (hrow t e).2.2 ht) (htsH.out t ht).2.1⟩, trivial⟩
    · exact hgrH.out.os.trans (hb2H.out.os.trans hbelH.out.os)
    · exact hgrH.out.tape.trans (hb2H.out.tape.trans hbelH.out.tape)
    · exact hgrH.out.output.trans (hb2H.out.output.trans hbelH.out.output)
    · exact (Below.heap_setCell _ _ _ _ (by intro e; have e' : b + 1 = b := e; omega)).trans hp5H.out
    · exact hB5H.out.set_ 1 _
    · have h9 := hownH.out
      rw [show (pre ++ [x]).length = k + 1 by rw [List.length_append, hkH.out]; rfl, show flat tcs (pre ++ [x]) = flat tcs pre ++ tcs x by rw [flat_append]; simp [flat]]
      exact row_keep h9 (fun g hg => Below.heap_setCell _ _ _ _ (fun e => (hnew g hg).2.2.1 e))
  case done =>
    rintro D T xs W hD hDT hxs hI hK
    obtain rfl : xs = TL := hxs
    obtain ⟨hbel, hts, hvp, v, hBw, hR, hT⟩ := hI
    obtain ⟨a, c, G0, rfl, hTk0, hG⟩ := tk_of_row hR (by have := htlH.out; omega) htoH.out
    have hDb := (hts D hDT).2.1
    have hDl := (hts D hDT).2.2.2
    have hDw := (hts D hDT).1
    have hbH9 := hbH.out
    obtain ⟨G, hTk, hGw, hGb, hGl⟩ : ∃ G, TkAt G W a c xs ∧ w.heap.size ≤ G ∧ G ≠ b ∧ G < W.heap.size := by
      by_cases e : xs = []
      · subst e; exact ⟨D, TkAt.nil _ _ _ _, hDw, hDb, hDl⟩
      · obtain ⟨g1, g2, g3⟩ := hG e
        exact ⟨G0, hTk0, g1, fun e => row_off hBw (by decide) hR (by rw [g3, e]), g2⟩
    have hS : ∀ g, (S0 g ∨ g = b) → g < W.heap.size := fun g hg => by
      have := hbel.size
      rcases hg with hg | hg
      · have := hltH.out g hg; omega
      · have := hBw.lt; omega
    have hA : At b G np (fun g => S0 g ∨ g = b) W ⟨xs, 0, 0, 0, m⟩ := ⟨a, c, hBw, hTk, .inr rfl, fun e => e.elim (fun e => by have := hltH.out G e; omega) hGb, hGl, hS, NAt.widen hmH.out hbel (fun _ h => .inl h) (fun g h => h.imp id (fun e => by omega)), ⟨(by show (0 : Int) ≤ 0; decide), (by show (0 : Int) ≤ 25; decide), (by show (0 : Int) ≤ 0; decide), by have := htlH.out; show (0 : Int) + (xs.length : Int) ≤ 150000; omega, by have := htlH.out; show 0 + xs.length ≤ 150000; omega, fun e => absurd rfl e⟩⟩
    have hDS : ¬ (S0 D ∨ D = b) := fun e => e.elim (fun e => by have := hltH.out D e; omega) hDb
    have hF0 : Fr S0 w (fun g => S0 g ∨ g = b) W := ⟨hbel.os, hbel.tape, hbel.output, hbel.size, fun g h1 _ => hbel.block g h1, fun g h => h.imp id (fun e => by omega)⟩
    have q0 : W.cell? ⟨b + 1, 0, none⟩ = some (ptr b) := hvp.cell 0
    have hvpH := Lib.hid hvp
    have hAH := Lib.hid hA
    have hF0H := Lib.hid hF0
    have hDSH := Lib.hid hDS
    have hDlH := Lib.hid hDl
    have hDwH := Lib.hid hDw
    have hbelH := Lib.hid hbel
    have hbwH := Lib.hid hbel.size
    have hpk := Lib.hid (peek_any hA)
    have hasg := Lib.hid (fun (W2 : World) (hb : Below W.heap.size W W2) => assignment_any b G np _ W2 _ (hA.below hb) (fun e => by have e : (0 : Int) = 25 := e; omega))
    obtain ⟨t, ht⟩ : ∃ t, peekM (σ := Nm) ⟨xs, 0, 0, 0, m⟩ = t := ⟨_, rfl⟩
    have htH := Lib.hid ht
    have hKH := Lib.hid hK
    rw [ht] at hpk
    have hfd0 : ∀ (x y z : Value) (w : World), (Instr.field 64 (.agg #[x, y, z]) 0).run Tryz.prog w = .ok x w := fun x y z w => by kernel_rfl
    have hWD := Lib.hid hK
    have hz0 := Lib.hid (work_zero (l := xs) (m := m))
    obtain ⟨r, hr⟩ : ∃ r, go NM (6 * xs.length + 5) .asg ⟨xs, 0, 0, 0, m⟩ = r := ⟨_, rfl⟩
    have hz1 := Lib.hid (fun e => work_one (l := xs) (m := m) e hr)
    have hz2 := Lib.hid (fun e => work_two (l := xs) (m := m) e hr)
    have hasg := Lib.hid (show ∀ W2, Below W.heap.size W W2 → Calls Tryz.prog 21 #[ptr b] W2 (Post b G np (fun g => S0 g ∨ g = b) W2 r) by rw [← hr]; exact hasg.out)
    have ht9 : xs.headD tk0 = t := ht
    rw [ht9] at hz0 hz1 hz2
    obtain ⟨R, hR9⟩ : ∃ R, workM NM xs m = R := ⟨_, rfl⟩
    rw [hR9] at hz0 hz1 hz2
    have hR9H := Lib.hid hR9
    clear hr hR9 ht ht9 hbel hts hvp hBw hR hT hTk0 hG hDb hDl hDw hTk hGw hGb hGl hS hA hDS hF0 hK
    cases q1 : ((t.kind : Int) == 0)
    rotate_left
    · have e1 : t.kind = 0 := by have := eq_of_beq q1; omega
      have hr := Lib.hid (hz0.out e1)
      have hmt : ∀ w, (method 245 52 un "shyard/arith.number").run Tryz.prog w = .ok (121, un) w := fun w => by kernel_rfl
      clear e1
      gi_wp2_with (refine ⟨trivial, ?_⟩; first | (gi_at_call 20; refine (callsIn_wide.2 hpk.out).mono ?_; rintro e w2 ⟨rfl, hb2⟩; dsimp only [tkV]; have hb2H := Lib.hid hb2; clear hb2) | (gi_at_call 121; refine (callsIn_wide.2 (number_f _ _)).mono ?_; rintro e w3 ⟨rfl, hb3⟩; have hb3H := Lib.hid (hb2H.out.trans (hb3.mono hb2H.out.size)); clear hb3))
      have hD2 : w3.heap[D]? = some (.deferred (some [])) := (hb3H.out.block D hDlH.out).trans hWD.out
      have hN := NAt.widen (S' := S0) hmH.out (hbelH.out.trans (hb3H.out.mono hbwH.out)) (fun _ h => h) (fun g h => .inl h)
      refine ⟨by simp, .inl ⟨_, _, rfl, run_takeDeferred hD2, ?_⟩⟩
      refine ⟨_, results49t rfl _ _ rfl _, ?_, S0, ?_, ?_⟩
      · rw [hR9H.out, hr.out]; rfl
      · rw [hR9H.out, hr.out]; exact NAt.putD hN hD2 none
      · exact fr_putD (Fr.of_below (hbelH.out.trans (hb3H.out.mono hbwH.out))) hDwH.out _
    · obtain ⟨t3, ht3⟩ : ∃ t3, peekM r.2 = t3 := ⟨_, rfl⟩
      rw [ht3] at hz1 hz2
      have hn0 : t.kind ≠ 0 := fun e => by rw [e] at q1; cases q1
      have hn0H := Lib.hid hn0
      have hnDH := Lib.hid (show ¬ (S0 (b + 1) ∨ b + 1 = b) from fun e => e.elim (fun e => by have := hltH.out _ e; have := hbH.out; omega) (fun e => by omega))
      have ht3H := Lib.hid ht3
      clear ht3 hn0
      gi_upto_region 8 with (refine ⟨trivial, ?_⟩; first | (gi_at_call 20; refine (callsIn_wide.2 hpk.out).mono ?_; rintro e w2 ⟨rfl, hb2⟩; dsimp only [tkV]; have hb2H := Lib.hid hb2; have y0 := (blk_beneath hvpH.out hb2).cell 0; clear hb2) | (gi_at_call 21; refine (callsIn_wide.2 (hasg.out _ hb2H.out)).mono ?_; rintro e w3 ⟨rfl, S3, hA3, hF3⟩; have hA3H := Lib.hid hA3.al; have hF3H := Lib.hid (Fr.al hF3); have y3H := Lib.hid (Fr.blk hF3H.out (blk_beneath hvpH.out hb2H.out) hnDH.out); have y3 := y3H.out.cell 0; clear hA3 hF3))
      obtain ⟨w3, hw3⟩ : ∃ W, w3.alloc o49 = W := ⟨_, rfl⟩
      rw [hw3] at hA3H hF3H y3H y3 ⊢
      clear hw3
      cases q2 : ((t3.kind : Int) != 0)
      · have e1 : t3.kind = 0 := by
          have : ¬ ((t3.kind : Int) ≠ 0) := fun e => by rw [bne_iff_ne.2 e] at q2; cases q2
          omega
        have hr := Lib.hid (hz1.out hn0H.out e1)
        clear e1
        gi_upto_region 10 with (refine ⟨trivial, ?_⟩; first | (gi_at_call 20; refine (callsIn_wide.2 (peek_any hA3H.out)).mono ?_; rintro e w4 ⟨rfl, hb4⟩; rw [ht3H.out]; dsimp only [tkV]; have hb4H := Lib.hid hb4; have y4 := (blk_beneath y3H.out hb4).cell 0; clear hb4))
        have hAz := hA3H.out.below hb4H.out
        have hFz := hF3H.out.trans (Fr.of_below hb4H.out)
        obtain ⟨_, _, hW9⟩ := hAz
        have c4 : w4.cell? ⟨b, 4, none⟩ = some (.int .i64 r.2.err) := hW9.blk.cell 4
        have hNZ := hW9.ma
        have hDZ : w4.heap[D]? = some (.deferred (some [])) := (hFz.block D (Nat.lt_of_lt_of_le hDlH.out hb2H.out.size) hDSH.out).trans ((hb2H.out.block D hDlH.out).trans hWD.out)
        have hFz2 := (hF0H.out.trans (Fr.of_below (S := fun g => S0 g ∨ g = b) hb2H.out)).trans hFz
        clear hW9
        have y4d : w4.drew.cell? ⟨b + 1, 0, none⟩ = some (ptr b) := y4
        have c4d : w4.drew.cell? ⟨b, 4, none⟩ = some (.int .i64 r.2.err) := c4
        refine wpIn_wide.2 ?_
        go_region_held3 (fun Z => Z.cell? ⟨b + 1, 0, none⟩ = some (ptr b) ∧ Z.cell? ⟨b, 4, none⟩ = some (.int .i64 r.2.err)) (first | with_reducible exact ⟨y4d, c4d⟩ | fail) ((first | fail | fail))
        gi_wp2
        refine ⟨by simp, .inl ⟨_, _, rfl, run_takeDeferred (w := w4.drew) hDZ, ?_⟩⟩
        refine ⟨_, results49t rfl _ _ rfl _, ?_, S3, ?_, ?_⟩
        · rw [hR9H.out, hr.out]; rfl
        · rw [hR9H.out, hr.out]; exact NAt.putD (hNZ.below (belD _)) hDZ none
        · exact fr_putD (hFz2.trans (Fr.of_below (S := S3) (belD _))) hDwH.out _
      · have e1 : t3.kind ≠ 0 := fun e => by rw [e] at q2; cases q2
        have hr := Lib.hid (hz2.out hn0H.out e1)
        clear e1
        gi_upto_region 10 with (refine ⟨trivial, ?_⟩; first | (gi_at_call 22; refine (callsIn_wide.2 (fail_any (hA3H.out.below hb4H.out) 60)).mono ?_; rintro e w5 ⟨rfl, hA5, hF5⟩; have hA5H := Lib.hid hA5; have hF5H := Lib.hid hF5; clear hA5 hF5) | (gi_at_call 20; refine (callsIn_wide.2 (peek_any hA3H.out)).mono ?_; rintro e w4 ⟨rfl, hb4⟩; rw [ht3H.out]; dsimp only [tkV]; have hb4H := Lib.hid hb4; have y4 := (blk_beneath y3H.out hb4).cell 0; clear hb4))
        have y5 := (Fr.blk hF5H.out (blk_beneath y3H.out hb4H.out) (fun e => (hF3H.out.new _ e).elim hnDH.out (fun h => by have := hvpH.out.lt; have := hb2H.out.size; omega))).cell 0
        have hAz := hA5H.out
        have hFz := (hF3H.out.trans (Fr.of_below hb4H.out)).trans hF5H.out
        obtain ⟨_, _, hW9⟩ := hAz
        have c4 : w5.cell? ⟨b, 4, none⟩ = some (.int .i64 (failM 60 r.2).err) := hW9.blk.cell 4
        have hNZ := hW9.ma
        have hDZ : w5.heap[D]? = some (.deferred (some [])) := (hFz.block D (Nat.lt_of_lt_of_le hDlH.out hb2H.out.size) hDSH.out).trans ((hb2H.out.block D hDlH.out).trans hWD.out)
        have hFz2 := (hF0H.out.trans (Fr.of_below (S := fun g => S0 g ∨ g = b) hb2H.out)).trans hFz
        clear hW9
        have y5d : w5.drew.cell? ⟨b + 1, 0, none⟩ = some (ptr b) := y5
        have c4d : w5.drew.cell? ⟨b, 4, none⟩ = some (.int .i64 (failM 60 r.2).err) := c4
        refine wpIn_wide.2 ?_
        go_region_held3 (fun Z => Z.cell? ⟨b + 1, 0, none⟩ = some (ptr b) ∧ Z.cell? ⟨b, 4, none⟩ = some (.int .i64 (failM 60 r.2).err)) (first | with_reducible exact ⟨y5d, c4d⟩ | fail) ((first | fail | fail))
        gi_wp2
        refine ⟨by simp, .inl ⟨_, _, rfl, run_takeDeferred (w := w5.drew) hDZ, ?_⟩⟩
        refine ⟨_, results49t rfl _ _ rfl _, ?_, S3, ?_, ?_⟩
        · rw [hR9H.out, hr.out]; rfl
        · rw [hR9H.out, hr.out]; exact NAt.putD (hNZ.below (belD _)) hDZ none
        · exact fr_putD (hFz2.trans (Fr.of_below (S := S3) (belD _))) hDwH.out _
  case stop =>
    rintro D c T pre W _ _ _ h _
    exact h.elim
end Go.Proofs.YtjbmpockoicgmaaGreat.F
