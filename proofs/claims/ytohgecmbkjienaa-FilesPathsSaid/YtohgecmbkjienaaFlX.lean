/- walkAhead. Condition: the tree lies as stated, and leads where there is something. -/
import Derived.Test.YtohgecmbkjienaaFlW
namespace Go.Proofs.Ytohgecmbkjienaa
open Go.RowKit Go.Shelf Go.PlainAid
attribute [local go_sem] Oper.semAt_some

section
variable {w : World} {B : Nat → Nat → Prop} {p : Nat} {f : Fs} {sv : Value} {ps : List (Option Nat)}
set_option maxRecDepth 100000 in
set_option maxHeartbeats 8000000 in
theorem ahead_in (n : Nat) (hn : 3 ≤ n) (h : FsAt w B p f sv ps) (hf : FineF f) (hcl : Closed f) (dir : Int) (hd : (node f dir).isSome) (s : ByteArray) (hs : s.size ≤ maxLen) :
    CallsIn Fence.wide n Try.prog 41 #[.pointer (some ⟨p, 0, none⟩), .int .i64 dir, .string s] w fun e w' => e = .returned (.tuple #[.int .i64 (aheadM f dir s).1, .string (aheadM f dir s).2.1, .int .i64 (aheadM f dir s).2.2]) ∧ Below w.heap.size w w' := by
  have h1 : 1 ≤ n := by omega
  have hpl := h.lt 0 p h.bp
  obtain ⟨z, hz⟩ : ∃ z, w.heap.size = z := ⟨_, rfl⟩
  have hH := Lib.hid h
  have hzH := Lib.hid hz
  have hbe := Lib.hid (fun w => begin_any dir s w hs)
  clear h
  refine callsIn_of_wp_marks Try.func41 rfl trivial ?_ rfl
  simp only [Try.ntmps41, List.size_toArray, List.length_cons, List.length_nil, Nat.reduceAdd, Nat.reduceSub, Array.replicate_succ, Array.replicate_zero, List.push_toArray, List.append_toArray, List.nil_append, List.cons_append]
  obtain ⟨m, hm⟩ : ∃ m, beginM dir s = m := ⟨_, rfl⟩
  have hlv := begin_live hcl hd s
  have hW : Hid (aheadM f dir s = if (beginM dir s).2 ≠ 0 then (0, ⟨#[]⟩, (beginM dir s).2) else lastM f (aheadsM f (beginM dir s).1 ⟨#[]⟩ (pieces s))) := Lib.hid rfl
  rw [hm] at hbe hlv hW
  obtain ⟨d0, e0⟩ := m
  have hfH := Lib.hid hf
  have hclH := Lib.hid hcl
  clear hf hcl hd hm
  by_cases he : e0 = 0
  · subst he
    have hlv2 := Lib.hid (hlv rfl)
    clear hlv
    dsimp only at hW hlv2 hbe
    rw [hW.out, if_neg (fun h => h rfl)]
    obtain ⟨R, hR⟩ : ∃ R, lastM f (aheadsM f d0 ⟨#[]⟩ (pieces s)) = R := ⟨_, rfl⟩
    rw [hR]
    have hRH := Lib.hid hR
    clear hR
    obtain ⟨w0, hw0⟩ : ∃ x, (((((((w.alloc (.cells #[.pointer (some ⟨p, 0, none⟩)] 24)).alloc (.cells #[.int .i64 0] 3)).alloc (.cells #[.string ⟨#[]⟩] 9)).alloc (.cells #[.int .i64 0] 37)).alloc (.cells #[.int .i64 d0] 3)).alloc (.cells #[.int .i64 0] 37)).alloc (.cells #[.string ⟨#[]⟩] 9)).alloc (.cells #[.string s] 9) = x := ⟨_, rfl⟩
    have hb0 : Hid (Below z w w0) := Lib.hid (by rw [← hw0, ← hz]; exact (((((((alB _ _).alloc (by simp) _).alloc (by simp; omega) _).alloc (by simp; omega) _).alloc (by simp; omega) _).alloc (by simp; omega) _).alloc (by simp; omega) _).alloc (by simp; omega) _)
    have hs0 : w0.heap.size = z + 8 := by rw [← hw0]; simp [hz]
    have k0 : Blk w0 z 24 #[.pointer (some ⟨p, 0, none⟩)] := by rw [← hw0, ← hz]; exact (((((((Blk.new _ _ _).alloc _).alloc _).alloc _).alloc _).alloc _).alloc _).alloc _
    have k1 : Blk w0 (z + 1) 3 #[.int .i64 0] := by rw [← hw0]; exact ((((((newB _ _ (z + 1) (by simp [hz])).alloc _).alloc _).alloc _).alloc _).alloc _).alloc _
    have k2 : Blk w0 (z + 2) 9 #[.string ⟨#[]⟩] := by rw [← hw0]; exact (((((newB _ _ (z + 2) (by simp [hz])).alloc _).alloc _).alloc _).alloc _).alloc _
    have k3 : Blk w0 (z + 3) 37 #[.int .i64 0] := by rw [← hw0]; exact ((((newB _ _ (z + 3) (by simp [hz])).alloc _).alloc _).alloc _).alloc _
    have k4 : Blk w0 (z + 4) 3 #[.int .i64 d0] := by rw [← hw0]; exact (((newB _ _ (z + 4) (by simp [hz])).alloc _).alloc _).alloc _
    have k5 : Blk w0 (z + 5) 37 #[.int .i64 0] := by rw [← hw0]; exact ((newB _ _ (z + 5) (by simp [hz])).alloc _).alloc _
    have k6 : Blk w0 (z + 6) 9 #[.string ⟨#[]⟩] := by rw [← hw0]; exact (newB _ _ (z + 6) (by simp [hz])).alloc _
    have k7 : Blk w0 (z + 7) 9 #[.string s] := by rw [← hw0]; exact newB _ _ (z + 7) (by simp [hz])
    have hw0H := Lib.hid hw0
    clear hw0
    gi_wp2_with (first | (refine ⟨trivial, ?_⟩; gi_at_call 63; refine (callsIn_wide.2 (hbe.out _)).mono ?_; rintro e w' ⟨rfl, rfl⟩) | (refine ⟨trivial, ?_⟩; gi_at_call 64; refine (callsIn_wide.2 (pieces_any s _)).mono ?_; rintro e w' ⟨rfl, rfl⟩))
    rw [hw0H.out]
    have hFs : Hid (∀ W, (∀ g, g < z → W.heap[g]? = w0.heap[g]?) → z ≤ W.heap.size → FsAt W B p f sv ps) := Lib.hid (fun W hg hsz => hH.out.keep (by rw [hz]; exact hsz) (fun i g hB => by have := hH.out.lt i g hB; rw [hz] at this; exact (hg g this).trans (hb0.out.block g this)))
    apply range_law rfl h1 (gf := 73) (lb := #[.pointer (some ⟨z + 7, 0, none⟩)]) rfl trivial (enters_of Try.func73 (by kernel_rfl) rfl)
      (pieces_stops (n - 1) (by omega) (z + 7) s (fun _ _ _ _ => True) w0 hs k7) (fun k hk => by rw [List.mem_singleton.1 hk]; omega) (fun _ _ _ _ _ _ _ _ _ => trivial) (Below.refl _ _) (fun _ => rfl)
      (fun T pre W => InvG (z + 8) (fun g => z + 1 ≤ g) (fun g => g = z + 7) w0 T W ∧ (aheadsM f d0 ⟨#[]⟩ pre).2.2 = 0 ∧ Blk W (z + 1) 3 #[.int .i64 0] ∧ Blk W (z + 2) 9 #[.string ⟨#[]⟩] ∧ Blk W (z + 3) 37 #[.int .i64 0] ∧ Blk W (z + 4) 3 #[.int .i64 (aheadsM f d0 ⟨#[]⟩ pre).1] ∧ Blk W (z + 5) 37 #[.int .i64 0] ∧ Blk W (z + 6) 9 #[.string (aheadsM f d0 ⟨#[]⟩ pre).2.1])
      (fun c T pre W => c = .ret ∧ InvG (z + 8) (fun g => z + 1 ≤ g) (fun g => g = z + 7) w0 T W ∧ (aheadsM f d0 ⟨#[]⟩ pre).2.2 ≠ 0 ∧ Blk W (z + 1) 3 #[.int .i64 0] ∧ Blk W (z + 2) 9 #[.string ⟨#[]⟩] ∧ Blk W (z + 3) 37 #[.int .i64 (aheadsM f d0 ⟨#[]⟩ pre).2.2])
      (fun T T' pre A B hi he => ⟨hi.1.ext (fun g h => by omega) he, hi.2.1, blk_ext hi.2.2.1 hi.1.ts (by omega) (by omega) he, blk_ext hi.2.2.2.1 hi.1.ts (by omega) (by omega) he, blk_ext hi.2.2.2.2.1 hi.1.ts (by omega) (by omega) he, blk_ext hi.2.2.2.2.2.1 hi.1.ts (by omega) (by omega) he, blk_ext hi.2.2.2.2.2.2.1 hi.1.ts (by omega) (by omega) he, blk_ext hi.2.2.2.2.2.2.2 hi.1.ts (by omega) (by omega) he⟩)
      (fun c T T' pre A B hi he => ⟨hi.1, hi.2.1.ext (fun g h => by omega) he, hi.2.2.1, blk_ext hi.2.2.2.1 hi.2.1.ts (by omega) (by omega) he, blk_ext hi.2.2.2.2.1 hi.2.1.ts (by omega) (by omega) he, blk_ext hi.2.2.2.2.2 hi.2.1.ts (by omega) (by omega) he⟩)
      ⟨InvG.start (fun k hk => List.mem_singleton.1 hk) (by omega), rfl, k1, k2, k3, k4, k5, k6⟩
      ?_ (fun _ W => W) (fun _ _ => Below.refl _ _) (fun _ _ _ _ h => h) ?assign ?body ?done ?stop
    case assign =>
      intro l x W K hK
      dsimp only [encS]
      gi_wp2
      exact hK
    case body =>
      intro l T pre x W W' o hsp _ _ hW' ⟨hI, h2, m1, m2, m3, m4, m5, m6⟩
      clear hW'
      have hA := Lib.hid (hFs.out W' (fun g hg => hI.block g (by omega) (by omega)) (by have := hI.n0; omega))
      have m0 : Blk W' z 24 #[.pointer (some ⟨p, 0, none⟩)] := (hI.block z (by omega) (by omega)).trans k0
      have hsn := aheads_snoc f x pre d0 ⟨#[]⟩ h2
      have hlc := aheads_live hclH.out pre d0 ⟨#[]⟩ hlv2.out h2
      obtain ⟨cur, hcur⟩ : ∃ c, (aheadsM f d0 ⟨#[]⟩ pre).1 = c := ⟨_, rfl⟩
      obtain ⟨last, hlast⟩ : ∃ c, (aheadsM f d0 ⟨#[]⟩ pre).2.1 = c := ⟨_, rfl⟩
      rw [hcur] at hlc m4 hsn
      rw [hlast] at m6 hsn
      obtain ⟨J, hJ⟩ := Option.isSome_iff_exists.1 hlc
      have y0 : W'.cell? ⟨z, 0, none⟩ = some (.pointer (some ⟨p, 0, none⟩)) := m0.cell 0
      have y4 : W'.cell? ⟨z + 1 + 1 + 1 + 1, 0, none⟩ = some (.int .i64 cur) := m4.cell 0
      have y6 : W'.cell? ⟨z + 1 + 1 + 1 + 1 + 1 + 1, 0, none⟩ = some (.string last) := m6.cell 0
      have f6 : W'.frozen? ⟨z + 1 + 1 + 1 + 1 + 1 + 1, 0, none⟩ = false := m6.frozen 0
      have hsnH := Lib.hid hsn
      have hIH := Lib.hid hI
      have mH := Lib.hid (And.intro m1 (And.intro m2 (And.intro m3 (And.intro m4 (And.intro m5 m6)))))
      by_cases hl0 : last.size = 0
      · obtain rfl : last = ⟨#[]⟩ := ba_ext (by rw [ba_nil.2 hl0])
        have hs2 : Hid (aheadsM f d0 ⟨#[]⟩ (pre ++ [x]) = (cur, x, 0)) := Lib.hid (by rw [hsn, aheads_first f cur x rfl]; rfl)
        clear hI hsn hcur hlast m0 m1 m2 m3 m4 m5 m6 hJ hlc h2 hl0
        gi_wp2
        refine ⟨⟨hIH.out.set (c := z + 6) (.inl (by omega)) _, by rw [hs2.out], mH.out.1.far (by show z + 1 ≠ z + 6; omega) _, mH.out.2.1.far (by show z + 2 ≠ z + 6; omega) _, mH.out.2.2.1.far (by show z + 3 ≠ z + 6; omega) _, ?_, mH.out.2.2.2.2.1.far (by show z + 5 ≠ z + 6; omega) _, ?_⟩, keepsT hIH.out (by simp only [World.size_setCell]; exact Nat.le_refl _) (fun g hg hl => Below.heap_setCell _ _ _ _ (fun e => by have e' : g = z + 6 := e; omega)), trivial⟩
        · rw [hs2.out]; exact mH.out.2.2.2.1.far (by show z + 4 ≠ z + 6; omega) _
        · rw [hs2.out]; exact mH.out.2.2.2.2.2.set_ 0 (.string x)
      · have hle : (last.toList.isEmpty) = false := by
          rw [Lib.toList_data]
          cases h : last.data.toList with
          | nil => exact absurd (ba_nil.1 h) hl0
          | cons a l => rfl
        have hst := Lib.hid (step_any hA.out hJ hfH.out last)
        have hon : (stepM f cur last).2 = 0 → aheadsM f d0 ⟨#[]⟩ (pre ++ [x]) = ((stepM f cur last).1, x, 0) := fun h => by rw [hsn, aheads_on f cur x hl0 h]; rfl
        have hof : (stepM f cur last).2 ≠ 0 → aheadsM f d0 ⟨#[]⟩ (pre ++ [x]) = (0, ⟨#[]⟩, (stepM f cur last).2) := fun h => by rw [hsn, aheads_off f cur x hl0 h]
        obtain ⟨r, hr⟩ : ∃ r, stepM f cur last = r := ⟨_, rfl⟩
        rw [hr] at hst hon hof
        obtain ⟨rn, re⟩ := r
        dsimp only at hst hon hof
        have hokH := Lib.hid hon
        have hnoH := Lib.hid hof
        clear hI hsn hon hof hr hcur hlast m0 m1 m2 m3 m4 m5 m6 hJ hlc h2 hl0
        by_cases hre : re = 0
        · subst hre
          gi_wp2_with fail
          refine ⟨trivial, (fun h => by cases h), ?_⟩
          refine (CallsIn.inRound l (callsIn_wide.2 hst.out)).mono ?_
          rintro e W2 ⟨rfl, hb⟩
          have q4 := Lib.hid (blk_beneath mH.out.2.2.2.1 hb)
          have q5 := Lib.hid (blk_beneath mH.out.2.2.2.2.1 hb)
          have q6 := Lib.hid (blk_beneath mH.out.2.2.2.2.2 hb)
          have x4 : W2.cell? ⟨z + 1 + 1 + 1 + 1, 0, none⟩ = some (.int .i64 cur) := q4.out.cell 0
          have g4 : W2.frozen? ⟨z + 1 + 1 + 1 + 1, 0, none⟩ = false := q4.out.frozen 0
          have x5 : W2.cell? ⟨z + 1 + 1 + 1 + 1 + 1, 0, none⟩ = some (.int .i64 0) := q5.out.cell 0
          have g5 : W2.frozen? ⟨z + 1 + 1 + 1 + 1 + 1, 0, none⟩ = false := q5.out.frozen 0
          have x6 : W2.cell? ⟨z + 1 + 1 + 1 + 1 + 1 + 1, 0, none⟩ = some (.string last) := q6.out.cell 0
          have g6 : W2.frozen? ⟨z + 1 + 1 + 1 + 1 + 1 + 1, 0, none⟩ = false := q6.out.frozen 0
          have hbH := Lib.hid hb
          clear hb
          gi_wp2
          have hs2 := hokH.out (by simp)
          refine ⟨⟨(((hIH.out.below hbH.out).set (c := z + 4) (.inl (by omega)) _).set (c := z + 5) (.inl (by omega)) _).set (c := z + 6) (.inl (by omega)) _, by rw [hs2], ?_, ?_, ?_, ?_, ?_, ?_⟩, keepsT hIH.out (by simp only [World.size_setCell]; exact hbH.out.size) (fun g hg hl => (Below.heap_setCell _ _ _ _ (fun e => by have e' : g = z + 6 := e; omega)).trans ((Below.heap_setCell _ _ _ _ (fun e => by have e' : g = z + 5 := e; omega)).trans ((Below.heap_setCell _ _ _ _ (fun e => by have e' : g = z + 4 := e; omega)).trans (hbH.out.block g hl)))), trivial⟩
          · exact (((blk_beneath mH.out.1 hbH.out).far (by show z + 1 ≠ z + 4; omega) _).far (by show z + 1 ≠ z + 5; omega) _).far (by show z + 1 ≠ z + 6; omega) _
          · exact (((blk_beneath mH.out.2.1 hbH.out).far (by show z + 2 ≠ z + 4; omega) _).far (by show z + 2 ≠ z + 5; omega) _).far (by show z + 2 ≠ z + 6; omega) _
          · exact (((blk_beneath mH.out.2.2.1 hbH.out).far (by show z + 3 ≠ z + 4; omega) _).far (by show z + 3 ≠ z + 5; omega) _).far (by show z + 3 ≠ z + 6; omega) _
          · rw [hs2]; exact ((q4.out.set_ 0 (.int .i64 rn)).far (by show z + 4 ≠ z + 5; omega) _).far (by show z + 4 ≠ z + 6; omega) _
          · exact ((q5.out.far (by show z + 5 ≠ z + 4; omega) _).set_ 0 (.int .i64 0)).far (by show z + 5 ≠ z + 6; omega) _
          · rw [hs2]; exact ((q6.out.far (by show z + 6 ≠ z + 4; omega) _).far (by show z + 6 ≠ z + 5; omega) _).set_ 0 (.string x)
        · have he2 : ((re : Int) != 0) = true := by simp; omega
          have hreH := Lib.hid hre
          clear hre
          gi_wp2_with fail
          refine ⟨trivial, (fun h => by cases h), ?_⟩
          refine (CallsIn.inRound l (callsIn_wide.2 hst.out)).mono ?_
          rintro e W2 ⟨rfl, hb⟩
          have q4 := Lib.hid (blk_beneath mH.out.2.2.2.1 hb)
          have q5 := Lib.hid (blk_beneath mH.out.2.2.2.2.1 hb)
          have x4 : W2.cell? ⟨z + 1 + 1 + 1 + 1, 0, none⟩ = some (.int .i64 cur) := q4.out.cell 0
          have g4 : W2.frozen? ⟨z + 1 + 1 + 1 + 1, 0, none⟩ = false := q4.out.frozen 0
          have x5 : W2.cell? ⟨z + 1 + 1 + 1 + 1 + 1, 0, none⟩ = some (.int .i64 0) := q5.out.cell 0
          have g5 : W2.frozen? ⟨z + 1 + 1 + 1 + 1 + 1, 0, none⟩ = false := q5.out.frozen 0
          have hbH := Lib.hid hb
          gi_upto_region 9 with fail
          obtain ⟨W3, hW3⟩ : ∃ W3, (W2.setCell ⟨z + 1 + 1 + 1 + 1, 0, none⟩ (.int .i64 rn)).setCell ⟨z + 1 + 1 + 1 + 1 + 1, 0, none⟩ (.int .i64 re) = W3 := ⟨_, rfl⟩
          have r1 : Hid (Blk W3 (z + 1) 3 #[.int .i64 0]) := Lib.hid (by rw [← hW3]; exact ((blk_beneath mH.out.1 hb).far (p := ⟨z + 4, 0, none⟩) (by show z + 1 ≠ z + 4; omega) _).far (p := ⟨z + 5, 0, none⟩) (by show z + 1 ≠ z + 5; omega) _)
          have r2 : Hid (Blk W3 (z + 2) 9 #[.string ⟨#[]⟩]) := Lib.hid (by rw [← hW3]; exact ((blk_beneath mH.out.2.1 hb).far (p := ⟨z + 4, 0, none⟩) (by show z + 2 ≠ z + 4; omega) _).far (p := ⟨z + 5, 0, none⟩) (by show z + 2 ≠ z + 5; omega) _)
          have r3 : Hid (Blk W3 (z + 3) 37 #[.int .i64 0]) := Lib.hid (by rw [← hW3]; exact ((blk_beneath mH.out.2.2.1 hb).far (p := ⟨z + 4, 0, none⟩) (by show z + 3 ≠ z + 4; omega) _).far (p := ⟨z + 5, 0, none⟩) (by show z + 3 ≠ z + 5; omega) _)
          have r5 : Blk W3 (z + 5) 37 #[.int .i64 re] := by rw [← hW3]; exact (q5.out.far (p := ⟨z + 4, 0, none⟩) (by show z + 5 ≠ z + 4; omega) _).set_ 0 (.int .i64 re)
          have hI3 : Hid (InvG (z + 8) (fun g => z + 1 ≤ g) (fun g => g = z + 7) w0 T W3) := Lib.hid (by rw [← hW3]; exact ((hIH.out.below hb).set (c := z + 4) (.inl (by omega)) _).set (c := z + 5) (.inl (by omega)) _)
          have hk3 : Hid (∀ g, (z + 8 ≤ g ∨ g = z + 7) → g < W'.heap.size → W3.heap[g]? = W'.heap[g]?) := Lib.hid (fun g hg hl => by
            rw [← hW3]
            exact (Below.heap_setCell _ _ _ _ (fun e => by have e' : g = z + 5 := e; omega)).trans ((Below.heap_setCell _ _ _ _ (fun e => by have e' : g = z + 4 := e; omega)).trans (hb.block g hl)))
          have hz3 : Hid (W'.heap.size ≤ W3.heap.size) := Lib.hid (by rw [← hW3]; simp only [World.size_setCell]; exact hb.size)
          rw [hW3]
          have y1 : W3.cell? ⟨z + 1, 0, none⟩ = some (.int .i64 0) := r1.out.cell 0
          have g1 : W3.frozen? ⟨z + 1, 0, none⟩ = false := r1.out.frozen 0
          have y2 : W3.cell? ⟨z + 1 + 1, 0, none⟩ = some (.string ⟨#[]⟩) := r2.out.cell 0
          have g2 : W3.frozen? ⟨z + 1 + 1, 0, none⟩ = false := r2.out.frozen 0
          have y3 : W3.cell? ⟨z + 1 + 1 + 1, 0, none⟩ = some (.int .i64 0) := r3.out.cell 0
          have g3 : W3.frozen? ⟨z + 1 + 1 + 1, 0, none⟩ = false := r3.out.frozen 0
          have y5 : W3.cell? ⟨z + 1 + 1 + 1 + 1 + 1, 0, none⟩ = some (.int .i64 re) := r5.cell 0
          clear hb hW3 x4 g4 x5 g5 r5
          gi_wp2
          gi_region
          all_goals
            gi_wp2
            have hs2 := hnoH.out hreH.out
            obtain ⟨t1, t2, t3, t4, t5, t6, t7, t8⟩ := tri r1.out r2.out r3.out (.int .i64 0) (.string ⟨#[]⟩) (.int .i64 re) (W2 := _) (by first | exact .inl rfl | exact .inr (.inl rfl) | exact .inr (.inr (.inl rfl)) | exact .inr (.inr (.inr (.inl rfl))) | exact .inr (.inr (.inr (.inr (.inl rfl)))) | exact .inr (.inr (.inr (.inr (.inr rfl)))))
            refine ⟨⟨rfl, ⟨hI3.out.ts, t5.trans hI3.out.os, t6.trans hI3.out.tape, t7.trans hI3.out.output, Nat.le_trans hI3.out.n0 (Nat.le_of_eq t8.symm), fun g g1 g2 => (t4 g (by omega) (by omega) (by omega)).trans (hI3.out.block g g1 g2)⟩, by rw [hs2]; exact hreH.out, t1, t2, by rw [hs2]; exact t3⟩, ⟨Nat.le_trans hz3.out (Nat.le_of_eq t8.symm), fun g hg hl => (t4 g (by have := hIH.out.ts g hg; omega) (by have := hIH.out.ts g hg; omega) (by have := hIH.out.ts g hg; omega)).trans (hk3.out g (hIH.out.ts g hg) hl)⟩⟩
    case done =>
      rintro D T xs W hD _ rfl ⟨hI, h2, m1, m2, m3, m4, m5, m6⟩ hK
      have hA := Lib.hid (hFs.out W (fun g hg => hI.block g (by omega) (by omega)) (by have := hI.n0; omega))
      have m0 : Blk W z 24 #[.pointer (some ⟨p, 0, none⟩)] := (hI.block z (by omega) (by omega)).trans k0
      have hlc := aheads_live hclH.out (pieces s) d0 ⟨#[]⟩ hlv2.out h2
      have hR2 := hRH.out
      obtain ⟨r, hr⟩ : ∃ r, aheadsM f d0 ⟨#[]⟩ (pieces s) = r := ⟨_, rfl⟩
      rw [hr] at hlc hR2 h2 m4 m6
      obtain ⟨cur, last, e9⟩ := r
      dsimp only at hlc hR2 h2 m4 m6
      subst h2
      obtain ⟨J, hJ⟩ := Option.isSome_iff_exists.1 hlc
      have hen := Lib.hid (enter_any hA.out hJ (by have := hfH.out.1; omega))
      have hLM : lastM f (cur, last, 0) = if enterM f cur ≠ 0 then (0, ⟨#[]⟩, enterM f cur) else if last.size = 0 ∨ last = dotT ∨ last = dotsT then (0, ⟨#[]⟩, 22) else if 32 < last.size then (0, ⟨#[]⟩, 36) else (cur, last, 0) := by unfold lastM; rw [if_neg (fun h => h rfl)]
      rw [hLM] at hR2
      have y0 : W.cell? ⟨z, 0, none⟩ = some (.pointer (some ⟨p, 0, none⟩)) := m0.cell 0
      have y1 : W.cell? ⟨z + 1, 0, none⟩ = some (.int .i64 0) := m1.cell 0
      have f1 : W.frozen? ⟨z + 1, 0, none⟩ = false := m1.frozen 0
      have y2 : W.cell? ⟨z + 1 + 1, 0, none⟩ = some (.string ⟨#[]⟩) := m2.cell 0
      have f2 : W.frozen? ⟨z + 1 + 1, 0, none⟩ = false := m2.frozen 0
      have y3 : W.cell? ⟨z + 1 + 1 + 1, 0, none⟩ = some (.int .i64 0) := m3.cell 0
      have f3 : W.frozen? ⟨z + 1 + 1 + 1, 0, none⟩ = false := m3.frozen 0
      have y4 : W.cell? ⟨z + 1 + 1 + 1 + 1, 0, none⟩ = some (.int .i64 cur) := m4.cell 0
      have y6 : W.cell? ⟨z + 1 + 1 + 1 + 1 + 1 + 1, 0, none⟩ = some (.string last) := m6.cell 0
      have hend : Hid (∀ (u v x : Value) W2, (W2 = (((W.setCell ⟨z + 1, 0, none⟩ u).setCell ⟨z + 2, 0, none⟩ v).setCell ⟨z + 3, 0, none⟩ x) ∨ W2 = (((W.setCell ⟨z + 1, 0, none⟩ u).setCell ⟨z + 3, 0, none⟩ x).setCell ⟨z + 2, 0, none⟩ v) ∨ W2 = (((W.setCell ⟨z + 2, 0, none⟩ v).setCell ⟨z + 1, 0, none⟩ u).setCell ⟨z + 3, 0, none⟩ x) ∨ W2 = (((W.setCell ⟨z + 2, 0, none⟩ v).setCell ⟨z + 3, 0, none⟩ x).setCell ⟨z + 1, 0, none⟩ u) ∨ W2 = (((W.setCell ⟨z + 3, 0, none⟩ x).setCell ⟨z + 1, 0, none⟩ u).setCell ⟨z + 2, 0, none⟩ v) ∨ W2 = (((W.setCell ⟨z + 3, 0, none⟩ x).setCell ⟨z + 2, 0, none⟩ v).setCell ⟨z + 1, 0, none⟩ u)) → W2.heap[D]? = some (.deferred (some [])) ∧ (W2.putObj D (.deferred none)).cell? ⟨z + 1, 0, none⟩ = some u ∧ (W2.putObj D (.deferred none)).cell? ⟨z + 2, 0, none⟩ = some v ∧ (W2.putObj D (.deferred none)).cell? ⟨z + 3, 0, none⟩ = some x ∧ Below z w (W2.putObj D (.deferred none))) := Lib.hid (fun u v x W2 h => by
        obtain ⟨t1, t2, t3, t4, t5, t6, t7, t8⟩ := tri m1 m2 m3 u v x h
        have hD2 : W2.heap[D]? = some (.deferred (some [])) := (t4 D (by omega) (by omega) (by omega)).trans hK
        have b1 : Blk (W2.putObj D (.deferred none)) (z + 1) 3 #[u] := (World.putObj_heap_other (by omega)).trans t1
        have b2 : Blk (W2.putObj D (.deferred none)) (z + 2) 9 #[v] := (World.putObj_heap_other (by omega)).trans t2
        have b3 : Blk (W2.putObj D (.deferred none)) (z + 3) 37 #[x] := (World.putObj_heap_other (by omega)).trans t3
        have hbW := hI.toBelow (w := w) (by rw [hz]; exact hb0.out) (fun g hg => by omega) (by omega)
        rw [hz] at hbW
        have hbX : Below z w W2 := ⟨t5.trans hbW.os, t6.trans hbW.tape, t7.trans hbW.output, Nat.le_trans hbW.size (Nat.le_of_eq t8.symm), fun g hg => (t4 g (by omega) (by omega) (by omega)).trans (hbW.block g hg)⟩
        have hbP : Below z W2 (W2.putObj D (.deferred none)) := ⟨rfl, rfl, rfl, by simp [World.putObj], fun g hg => World.putObj_heap_other (by omega)⟩
        exact ⟨hD2, b1.cell 0, b2.cell 0, b3.cell 0, hbX.trans hbP⟩)
      have hendD : Hid (∀ (u v x : Value) W2, (W2 = (((W.setCell ⟨z + 1, 0, none⟩ u).setCell ⟨z + 2, 0, none⟩ v).setCell ⟨z + 3, 0, none⟩ x) ∨ W2 = (((W.setCell ⟨z + 1, 0, none⟩ u).setCell ⟨z + 3, 0, none⟩ x).setCell ⟨z + 2, 0, none⟩ v) ∨ W2 = (((W.setCell ⟨z + 2, 0, none⟩ v).setCell ⟨z + 1, 0, none⟩ u).setCell ⟨z + 3, 0, none⟩ x) ∨ W2 = (((W.setCell ⟨z + 2, 0, none⟩ v).setCell ⟨z + 3, 0, none⟩ x).setCell ⟨z + 1, 0, none⟩ u) ∨ W2 = (((W.setCell ⟨z + 3, 0, none⟩ x).setCell ⟨z + 1, 0, none⟩ u).setCell ⟨z + 2, 0, none⟩ v) ∨ W2 = (((W.setCell ⟨z + 3, 0, none⟩ x).setCell ⟨z + 2, 0, none⟩ v).setCell ⟨z + 1, 0, none⟩ u)) → W2.drew.heap[D]? = some (.deferred (some [])) ∧ (W2.drew.putObj D (.deferred none)).cell? ⟨z + 1, 0, none⟩ = some u ∧ (W2.drew.putObj D (.deferred none)).cell? ⟨z + 2, 0, none⟩ = some v ∧ (W2.drew.putObj D (.deferred none)).cell? ⟨z + 3, 0, none⟩ = some x ∧ Below z w (W2.drew.putObj D (.deferred none))) := Lib.hid (fun u v x W2 h => by
        obtain ⟨a1, a2, a3, a4, a5⟩ := hend.out u v x W2 h
        exact ⟨a1, a2, a3, a4, ⟨a5.os, a5.tape, a5.output, a5.size, a5.block⟩⟩)
      obtain ⟨E, hE⟩ : ∃ E, enterM f cur = E := ⟨_, rfl⟩
      rw [hE] at hen hR2
      clear hI m0 m1 m2 m3 m4 m5 m6 hlc hJ hA hK hr hE hLM
      by_cases hE0 : E = 0
      · subst hE0
        rw [if_neg (fun h => h rfl)] at hR2
        by_cases hl0 : last.size = 0
        · obtain rfl : last = ⟨#[]⟩ := ba_ext (by rw [ba_nil.2 hl0])
          rw [if_pos (.inl hl0)] at hR2
          clear hl0
          subst hR2
          gi_wp2_with (refine ⟨trivial, ?_⟩; gi_at_call 66; refine (callsIn_wide.2 hen.out).mono ?_; rintro e w' ⟨rfl, rfl⟩)
          obtain ⟨hD2, q1, q2, q3, hbl⟩ := hend.out (.int .i64 0) (.string ⟨#[]⟩) (.int .i64 22) _ (.inl rfl)
          refine ⟨by simp, .inl ⟨_, _, rfl, run_takeDeferred hD2, ?_⟩⟩
          refine ⟨.tuple #[.int .i64 0, .string ⟨#[]⟩, .int .i64 22], ?_, rfl, hbl⟩
          simp [results, Try.results41, go_sem, q1, q2, q3]
        · have hle : (last.toList.isEmpty) = false := by
            rw [Lib.toList_data]
            cases h : last.data.toList with
            | nil => exact absurd (ba_nil.1 h) hl0
            | cons a l => rfl
          by_cases hl1 : last = dotT
          · rw [if_pos (.inr (.inl hl1))] at hR2
            subst hl1
            unfold dotT at *
            clear hl0 hle
            subst hR2
            gi_wp2_with (refine ⟨trivial, ?_⟩; gi_at_call 66; refine (callsIn_wide.2 hen.out).mono ?_; rintro e w' ⟨rfl, rfl⟩)
            obtain ⟨hD2, q1, q2, q3, hbl⟩ := hend.out (.int .i64 0) (.string ⟨#[]⟩) (.int .i64 22) _ (.inl rfl)
            refine ⟨by simp, .inl ⟨_, _, rfl, run_takeDeferred hD2, ?_⟩⟩
            refine ⟨.tuple #[.int .i64 0, .string ⟨#[]⟩, .int .i64 22], ?_, rfl, hbl⟩
            simp [results, Try.results41, go_sem, q1, q2, q3]
          · have e1 := str_dot hl1
            by_cases hl2 : last = dotsT
            · rw [if_pos (.inr (.inr hl2))] at hR2
              subst hl2
              unfold dotsT at *
              clear hl0 hle hl1 e1
              subst hR2
              gi_wp2_with (refine ⟨trivial, ?_⟩; gi_at_call 66; refine (callsIn_wide.2 hen.out).mono ?_; rintro e w' ⟨rfl, rfl⟩)
              obtain ⟨hD2, q1, q2, q3, hbl⟩ := hend.out (.int .i64 0) (.string ⟨#[]⟩) (.int .i64 22) _ (.inl rfl)
              refine ⟨by simp, .inl ⟨_, _, rfl, run_takeDeferred hD2, ?_⟩⟩
              refine ⟨.tuple #[.int .i64 0, .string ⟨#[]⟩, .int .i64 22], ?_, rfl, hbl⟩
              simp [results, Try.results41, go_sem, q1, q2, q3]
            · have e2 := str_dots hl2
              rw [if_neg (by intro h; rcases h with h | h | h; exact hl0 h; exact hl1 h; exact hl2 h)] at hR2
              by_cases hl3 : 32 < last.size
              · rw [if_pos hl3] at hR2
                subst hR2
                gi_wp2_with (refine ⟨trivial, ?_⟩; gi_at_call 66; refine (callsIn_wide.2 hen.out).mono ?_; rintro e w' ⟨rfl, rfl⟩)
                obtain ⟨hD2, q1, q2, q3, hbl⟩ := hend.out (.int .i64 0) (.string ⟨#[]⟩) (.int .i64 36) _ (.inl rfl)
                refine ⟨by simp, .inl ⟨_, _, rfl, run_takeDeferred hD2, ?_⟩⟩
                refine ⟨.tuple #[.int .i64 0, .string ⟨#[]⟩, .int .i64 36], ?_, rfl, hbl⟩
                simp [results, Try.results41, go_sem, q1, q2, q3]
              · rw [if_neg hl3] at hR2
                subst hR2
                gi_wp2_with (refine ⟨trivial, ?_⟩; gi_at_call 66; refine (callsIn_wide.2 hen.out).mono ?_; rintro e w' ⟨rfl, rfl⟩)
                gi_region
                all_goals
                  gi_wp2
                  obtain ⟨hD2, q1, q2, q3, hbl⟩ := hendD.out (.int .i64 cur) (.string last) (.int .i64 0) _ (by first | exact .inl rfl | exact .inr (.inl rfl) | exact .inr (.inr (.inl rfl)) | exact .inr (.inr (.inr (.inl rfl))) | exact .inr (.inr (.inr (.inr (.inl rfl)))) | exact .inr (.inr (.inr (.inr (.inr rfl)))))
                  refine ⟨by simp, .inl ⟨_, _, rfl, run_takeDeferred hD2, ?_⟩⟩
                  refine ⟨.tuple #[.int .i64 cur, .string last, .int .i64 0], ?_, rfl, hbl⟩
                  simp [results, Try.results41, go_sem, q1, q2, q3]
      · rw [if_pos hE0] at hR2
        have hE2 : ((E : Int) != 0) = true := by simp; omega
        subst hR2
        gi_wp2_with (refine ⟨trivial, ?_⟩; gi_at_call 66; refine (callsIn_wide.2 hen.out).mono ?_; rintro e w' ⟨rfl, rfl⟩)
        obtain ⟨hD2, q1, q2, q3, hbl⟩ := hend.out (.int .i64 0) (.string ⟨#[]⟩) (.int .i64 E) _ (.inl rfl)
        refine ⟨by simp, .inl ⟨_, _, rfl, run_takeDeferred hD2, ?_⟩⟩
        refine ⟨.tuple #[.int .i64 0, .string ⟨#[]⟩, .int .i64 E], ?_, rfl, hbl⟩
        simp [results, Try.results41, go_sem, q1, q2, q3]
    case stop =>
      rintro D c T pre W hD _ hsp ⟨rfl, hI, h2, m1, m2, m3⟩ hK
      have hR2 := hRH.out
      obtain ⟨t, ht⟩ := hsp
      have hbad := aheads_bad f pre t d0 ⟨#[]⟩ h2
      rw [ht] at hbad
      obtain ⟨e9, he9⟩ : ∃ e, (aheadsM f d0 ⟨#[]⟩ pre).2.2 = e := ⟨_, rfl⟩
      rw [he9] at hbad h2 m3
      rw [hbad] at hR2
      have hLM : lastM f (0, ⟨#[]⟩, e9) = (0, ⟨#[]⟩, e9) := by unfold lastM; rw [if_pos h2]
      rw [hLM] at hR2
      subst hR2
      have b1 : Blk (W.putObj D (.deferred none)) (z + 1) 3 #[.int .i64 0] := (World.putObj_heap_other (by omega)).trans m1
      have b2 : Blk (W.putObj D (.deferred none)) (z + 2) 9 #[.string ⟨#[]⟩] := (World.putObj_heap_other (by omega)).trans m2
      have b3 : Blk (W.putObj D (.deferred none)) (z + 3) 37 #[.int .i64 e9] := (World.putObj_heap_other (by omega)).trans m3
      have q1 : (W.putObj D (.deferred none)).cell? ⟨z + 1, 0, none⟩ = some (.int .i64 0) := b1.cell 0
      have q2 : (W.putObj D (.deferred none)).cell? ⟨z + 2, 0, none⟩ = some (.string ⟨#[]⟩) := b2.cell 0
      have q3 : (W.putObj D (.deferred none)).cell? ⟨z + 3, 0, none⟩ = some (.int .i64 e9) := b3.cell 0
      have hbW : Below w.heap.size w (W.putObj D (.deferred none)) := (hI.toBelow (w := w) (by rw [hz]; exact hb0.out) (fun g hg => by omega) (by omega)).trans (belowK_b (w := w) (Nat.le_refl _) W D _ _ (by omega) hK rfl rfl)
      have hKH := Lib.hid hK
      clear hI m1 m2 m3 h2 hbad ht b1 b2 b3 hK he9 hLM
      gi_wp2
      refine ⟨by simp, .inl ⟨_, _, rfl, run_takeDeferred hKH.out, ?_⟩⟩
      refine ⟨.tuple #[.int .i64 0, .string ⟨#[]⟩, .int .i64 e9], ?_, rfl, hzH.out ▸ hbW⟩
      simp [results, Try.results41, go_sem, q1, q2, q3]
  · dsimp only at hW hbe
    rw [hW.out, if_pos he]
    have he2 : ((e0 : Int) != 0) = true := by simp; omega
    obtain ⟨w1, hw1⟩ : ∃ x, (((((w.alloc (.cells #[.pointer (some ⟨p, 0, none⟩)] 24)).alloc (.cells #[.int .i64 0] 3)).alloc (.cells #[.string ⟨#[]⟩] 9)).alloc (.cells #[.int .i64 0] 37)).alloc (.cells #[.int .i64 d0] 3)).alloc (.cells #[.int .i64 e0] 37) = x := ⟨_, rfl⟩
    have hb1 : Hid (Below z w w1) := Lib.hid (by rw [← hw1, ← hz]; exact (((((alB _ _).alloc (by simp) _).alloc (by simp; omega) _).alloc (by simp; omega) _).alloc (by simp; omega) _).alloc (by simp; omega) _)
    have k1 : Blk w1 (z + 1) 3 #[.int .i64 0] := by rw [← hw1]; exact ((((newB _ _ (z + 1) (by simp [hz])).alloc _).alloc _).alloc _).alloc _
    have k2 : Blk w1 (z + 2) 9 #[.string ⟨#[]⟩] := by rw [← hw1]; exact (((newB _ _ (z + 2) (by simp [hz])).alloc _).alloc _).alloc _
    have k3 : Blk w1 (z + 3) 37 #[.int .i64 0] := by rw [← hw1]; exact ((newB _ _ (z + 3) (by simp [hz])).alloc _).alloc _
    have k5 : Blk w1 (z + 5) 37 #[.int .i64 e0] := by rw [← hw1]; exact newB _ _ (z + 5) (by simp [hz])
    have hw1H := Lib.hid hw1
    have x1 : w1.cell? ⟨z + 1, 0, none⟩ = some (.int .i64 0) := k1.cell 0
    have g1 : w1.frozen? ⟨z + 1, 0, none⟩ = false := k1.frozen 0
    have x2 : w1.cell? ⟨z + 1 + 1, 0, none⟩ = some (.string ⟨#[]⟩) := k2.cell 0
    have g2 : w1.frozen? ⟨z + 1 + 1, 0, none⟩ = false := k2.frozen 0
    have x3 : w1.cell? ⟨z + 1 + 1 + 1, 0, none⟩ = some (.int .i64 0) := k3.cell 0
    have g3 : w1.frozen? ⟨z + 1 + 1 + 1, 0, none⟩ = false := k3.frozen 0
    have x5 : w1.cell? ⟨z + 1 + 1 + 1 + 1 + 1, 0, none⟩ = some (.int .i64 e0) := k5.cell 0
    have hF : Hid (∀ (u v x : Value) W2, (W2 = (((w1.setCell ⟨z + 1, 0, none⟩ u).setCell ⟨z + 2, 0, none⟩ v).setCell ⟨z + 3, 0, none⟩ x) ∨ W2 = (((w1.setCell ⟨z + 1, 0, none⟩ u).setCell ⟨z + 3, 0, none⟩ x).setCell ⟨z + 2, 0, none⟩ v) ∨ W2 = (((w1.setCell ⟨z + 2, 0, none⟩ v).setCell ⟨z + 1, 0, none⟩ u).setCell ⟨z + 3, 0, none⟩ x) ∨ W2 = (((w1.setCell ⟨z + 2, 0, none⟩ v).setCell ⟨z + 3, 0, none⟩ x).setCell ⟨z + 1, 0, none⟩ u) ∨ W2 = (((w1.setCell ⟨z + 3, 0, none⟩ x).setCell ⟨z + 1, 0, none⟩ u).setCell ⟨z + 2, 0, none⟩ v) ∨ W2 = (((w1.setCell ⟨z + 3, 0, none⟩ x).setCell ⟨z + 2, 0, none⟩ v).setCell ⟨z + 1, 0, none⟩ u)) → W2.drew.cell? ⟨z + 1, 0, none⟩ = some u ∧ W2.drew.cell? ⟨z + 2, 0, none⟩ = some v ∧ W2.drew.cell? ⟨z + 3, 0, none⟩ = some x ∧ Below z w W2.drew) := Lib.hid (fun u v x W2 h => by
      obtain ⟨t1, t2, t3, t4, t5, t6, t7, t8⟩ := tri k1 k2 k3 u v x h
      exact ⟨t1.cell 0, t2.cell 0, t3.cell 0, ⟨t5.trans hb1.out.os, t6.trans hb1.out.tape, t7.trans hb1.out.output, Nat.le_trans hb1.out.size (Nat.le_of_eq t8.symm), fun g hg => (t4 g (by omega) (by omega) (by omega)).trans (hb1.out.block g hg)⟩⟩)
    clear hw1 k1 k2 k3 k5 hlv
    gi_upto_region 3 with (refine ⟨trivial, ?_⟩; gi_at_call 63; refine (callsIn_wide.2 (hbe.out _)).mono ?_; rintro e w' ⟨rfl, rfl⟩)
    rw [hw1H.out]
    gi_region
    all_goals
      gi_wp2
      obtain ⟨qa, qb, qc, hbl⟩ := hF.out (.int .i64 0) (.string ⟨#[]⟩) (.int .i64 e0) _ (by first | exact .inl rfl | exact .inr (.inl rfl) | exact .inr (.inr (.inl rfl)) | exact .inr (.inr (.inr (.inl rfl))) | exact .inr (.inr (.inr (.inr (.inl rfl)))) | exact .inr (.inr (.inr (.inr (.inr rfl)))))
      refine ⟨.tuple #[.int .i64 0, .string ⟨#[]⟩, .int .i64 e0], ?_, rfl, hbl⟩
      simp [results, Try.results41, go_sem, qa, qb, qc]
theorem ahead_any (h : FsAt w B p f sv ps) (hf : FineF f) (hcl : Closed f) (dir : Int) (hd : (node f dir).isSome) (s : ByteArray) (hs : s.size ≤ maxLen) :
    Calls Try.prog 41 #[.pointer (some ⟨p, 0, none⟩), .int .i64 dir, .string s] w fun e w' => e = .returned (.tuple #[.int .i64 (aheadM f dir s).1, .string (aheadM f dir s).2.1, .int .i64 (aheadM f dir s).2.2]) ∧ Below w.heap.size w w' := callsIn_wide.1 (ahead_in 3 (Nat.le_refl _) h hf hcl dir hd s hs)
end
end Go.Proofs.Ytohgecmbkjienaa
