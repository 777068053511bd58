/- A way along a path. Condition: the tree lies as stated, and leads where there is something. -/
import Derived.Test.YtohgecmbkjienaaFlU
namespace Go.Proofs.Ytohgecmbkjienaa
open Go.RowKit Go.Shelf Go.PlainAid
attribute [local go_sem] Oper.semAt_some

/-- Where a step leads there is something. -/
def Closed (f : Fs) : Prop := (node f 1).isSome ∧ ∀ n x, (node f n).isSome → (stepM f n x).2 = 0 → (node f (stepM f n x).1).isSome
theorem steps_on {f : Fs} {n : Int} {p : ByteArray} (l : List ByteArray) (h : (stepM f n p).2 = 0) : stepsM f n (p :: l) = stepsM f (stepM f n p).1 l := by rw [stepsM, if_neg (fun h' => h' h)]
theorem steps_off {f : Fs} {n : Int} {p : ByteArray} (l : List ByteArray) (h : (stepM f n p).2 ≠ 0) : stepsM f n (p :: l) = (0, (stepM f n p).2) := by rw [stepsM, if_pos h]
theorem steps_ok (f : Fs) (x : ByteArray) : ∀ (l : List ByteArray) (n : Int), (stepsM f n l).2 = 0 → (stepM f (stepsM f n l).1 x).2 = 0 → stepsM f n (l ++ [x]) = ((stepM f (stepsM f n l).1 x).1, 0)
  | [], n, _, h => by
    have h' : (stepM f n x).2 = 0 := h
    rw [List.nil_append, steps_on [] h']
    rfl
  | p :: l, n, h, hx => by
    by_cases h1 : (stepM f n p).2 = 0
    · rw [steps_on l h1] at h hx ⊢
      rw [List.cons_append, steps_on (l ++ [x]) h1]
      exact steps_ok f x l _ h hx
    · rw [steps_off l h1] at h; exact absurd h h1
theorem steps_no (f : Fs) (x : ByteArray) : ∀ (l : List ByteArray) (n : Int), (stepsM f n l).2 = 0 → (stepM f (stepsM f n l).1 x).2 ≠ 0 → stepsM f n (l ++ [x]) = (0, (stepM f (stepsM f n l).1 x).2)
  | [], n, _, h => by
    have h' : (stepM f n x).2 ≠ 0 := h
    rw [List.nil_append, steps_off [] h']
    rfl
  | p :: l, n, h, hx => by
    by_cases h1 : (stepM f n p).2 = 0
    · rw [steps_on l h1] at h hx ⊢
      rw [List.cons_append, steps_on (l ++ [x]) h1]
      exact steps_no f x l _ h hx
    · rw [steps_off l h1] at h; exact absurd h h1
theorem steps_bad (f : Fs) : ∀ (l t : List ByteArray) (n : Int), (stepsM f n l).2 ≠ 0 → stepsM f n (l ++ t) = (0, (stepsM f n l).2)
  | [], _, _, h => absurd rfl h
  | p :: l, t, n, h => by
    by_cases h1 : (stepM f n p).2 = 0
    · rw [steps_on l h1] at h ⊢
      rw [List.cons_append, steps_on (l ++ t) h1]
      exact steps_bad f l t _ h
    · rw [steps_off l h1, List.cons_append, steps_off (l ++ t) h1]
theorem steps_live {f : Fs} (hc : Closed f) : ∀ (l : List ByteArray) (n : Int), (node f n).isSome → (stepsM f n l).2 = 0 → (node f (stepsM f n l).1).isSome
  | [], _, h, _ => h
  | p :: l, n, h, h0 => by
    by_cases h1 : (stepM f n p).2 = 0
    · rw [steps_on l h1] at h0 ⊢
      exact steps_live hc l _ (hc.2 _ _ h h1) h0
    · rw [steps_off l h1] at h0; exact absurd h0 h1
theorem begin_live {f : Fs} (hc : Closed f) {dir : Int} (hd : (node f dir).isSome) (s : ByteArray) (h : (beginM dir s).2 = 0) : (node f (beginM dir s).1).isSome := by
  unfold beginM at h ⊢
  split at h
  · cases h
  · rename_i h1
    rw [if_neg h1]
    split at h
    · cases h
    · rename_i h2
      rw [if_neg h2]
      split
      · exact hc.1
      · exact hd
section
variable {w : World} {B : Nat → Nat → Prop} {p : Nat} {f : Fs} {sv : Value} {ps : List (Option Nat)}
set_option maxRecDepth 100000 in
set_option maxHeartbeats 4000000 in
theorem walk_in (n : Nat) (hn : 3 ≤ n) (h : FsAt w B p f sv ps) (hf : FineF f) (hcl : Closed f) (dir : Int) (hd : (node f dir).isSome) (s : ByteArray) (hs : s.size ≤ maxLen) :
    CallsIn Fence.wide n Try.prog 51 #[.pointer (some ⟨p, 0, none⟩), .int .i64 dir, .string s] w fun e w' => e = .returned (.tuple #[.int .i64 (walkM f dir s).1, .int .i64 (walkM f dir s).2]) ∧ Below w.heap.size w w' := by
  have h1 : 1 ≤ n := by omega
  have hpl := h.lt 0 p h.bp
  obtain ⟨z, hz⟩ : ∃ z, w.heap.size = z := ⟨_, rfl⟩
  have hH := Lib.hid h
  have hzH := Lib.hid hz
  have hbe := Lib.hid (fun w => begin_any dir s w hs)
  have hsl := Lib.hid (fun w => slashed_any s w hs)
  clear h
  refine callsIn_of_wp_marks Try.func51 rfl trivial ?_ rfl
  simp only [Try.ntmps51, List.size_toArray, List.length_cons, List.length_nil, Nat.reduceAdd, Nat.reduceSub, Array.replicate_succ, Array.replicate_zero, List.push_toArray, List.append_toArray, List.nil_append, List.cons_append]
  obtain ⟨m, hm⟩ : ∃ m, beginM dir s = m := ⟨_, rfl⟩
  have hlv := begin_live hcl hd s
  have hW : Hid (walkM f dir s = if (beginM dir s).2 ≠ 0 then (0, (beginM dir s).2) else if (stepsM f (beginM dir s).1 (pieces s)).2 ≠ 0 then (0, (stepsM f (beginM dir s).1 (pieces s)).2) else if slashed s && !isDir f (stepsM f (beginM dir s).1 (pieces s)).1 then (0, 20) else ((stepsM f (beginM dir s).1 (pieces s)).1, 0)) := Lib.hid rfl
  rw [hm] at hbe hlv hW
  obtain ⟨d0, e0⟩ := m
  have hfH := Lib.hid hf
  have hclH := Lib.hid hcl
  clear hf hcl hd hm
  by_cases he : e0 = 0
  · subst he
    have hlv2 := Lib.hid (hlv rfl)
    clear hlv
    dsimp only at hW hlv2 hbe
    rw [hW.out, if_neg (fun h => h rfl)]
    obtain ⟨R, hR⟩ : ∃ R, (if (stepsM f d0 (pieces s)).2 ≠ 0 then (0, (stepsM f d0 (pieces s)).2) else if slashed s && !isDir f (stepsM f d0 (pieces s)).1 then (0, 20) else ((stepsM f d0 (pieces s)).1, 0)) = R := ⟨_, rfl⟩
    rw [hR]
    have hRH := Lib.hid hR
    clear hR
    obtain ⟨w0, hw0⟩ : ∃ x, (((((w.alloc (.cells #[.pointer (some ⟨p, 0, none⟩)] 24)).alloc (.cells #[.int .i64 0] 3)).alloc (.cells #[.int .i64 0] 37)).alloc (.cells #[.int .i64 d0] 3)).alloc (.cells #[.int .i64 0] 37)).alloc (.cells #[.string s] 9) = x := ⟨_, rfl⟩
    have hb0 : Hid (Below z w w0) := Lib.hid (by rw [← hw0, ← hz]; exact (((((alB _ _).alloc (by simp) _).alloc (by simp; omega) _).alloc (by simp; omega) _).alloc (by simp; omega) _).alloc (by simp; omega) _)
    have hs0 : w0.heap.size = z + 6 := by rw [← hw0]; simp [hz]
    have k0 : Blk w0 z 24 #[.pointer (some ⟨p, 0, none⟩)] := by rw [← hw0, ← hz]; exact (((((Blk.new _ _ _).alloc _).alloc _).alloc _).alloc _).alloc _
    have k1 : Blk w0 (z + 1) 3 #[.int .i64 0] := by rw [← hw0]; exact ((((newB _ _ (z + 1) (by simp [hz])).alloc _).alloc _).alloc _).alloc _
    have k2 : Blk w0 (z + 2) 37 #[.int .i64 0] := by rw [← hw0]; exact (((newB _ _ (z + 2) (by simp [hz])).alloc _).alloc _).alloc _
    have k3 : Blk w0 (z + 3) 3 #[.int .i64 d0] := by rw [← hw0]; exact ((newB _ _ (z + 3) (by simp [hz])).alloc _).alloc _
    have k4 : Blk w0 (z + 4) 37 #[.int .i64 0] := by rw [← hw0]; exact (newB _ _ (z + 4) (by simp [hz])).alloc _
    have k5 : Blk w0 (z + 5) 9 #[.string s] := by rw [← hw0]; exact newB _ _ (z + 5) (by simp [hz])
    have hw0H := Lib.hid hw0
    clear hw0
    gi_wp2_with (first | (refine ⟨trivial, ?_⟩; gi_at_call 63; refine (callsIn_wide.2 (hbe.out _)).mono ?_; rintro e w' ⟨rfl, rfl⟩) | (refine ⟨trivial, ?_⟩; gi_at_call 64; refine (callsIn_wide.2 (pieces_any s _)).mono ?_; rintro e w' ⟨rfl, rfl⟩))
    rw [hw0H.out]
    have hFs : Hid (∀ W, (∀ g, g < z → W.heap[g]? = w0.heap[g]?) → z ≤ W.heap.size → FsAt W B p f sv ps) := Lib.hid (fun W hg hsz => hH.out.keep (by rw [hz]; exact hsz) (fun i g hB => by have := hH.out.lt i g hB; rw [hz] at this; exact (hg g this).trans (hb0.out.block g this)))
    apply range_law rfl h1 (gf := 73) (lb := #[.pointer (some ⟨z + 5, 0, none⟩)]) rfl trivial (enters_of Try.func73 (by kernel_rfl) rfl)
      (pieces_stops (n - 1) (by omega) (z + 5) s (fun _ _ _ _ => True) w0 hs k5) (fun k hk => by rw [List.mem_singleton.1 hk]; omega) (fun _ _ _ _ _ _ _ _ _ => trivial) (Below.refl _ _) (fun _ => rfl)
      (fun T pre W => InvG (z + 6) (fun g => z + 1 ≤ g) (fun g => g = z + 5) w0 T W ∧ (stepsM f d0 pre).2 = 0 ∧ Blk W (z + 1) 3 #[.int .i64 0] ∧ Blk W (z + 2) 37 #[.int .i64 0] ∧ Blk W (z + 3) 3 #[.int .i64 (stepsM f d0 pre).1] ∧ Blk W (z + 4) 37 #[.int .i64 0])
      (fun c T pre W => c = .ret ∧ InvG (z + 6) (fun g => z + 1 ≤ g) (fun g => g = z + 5) w0 T W ∧ (stepsM f d0 pre).2 ≠ 0 ∧ Blk W (z + 1) 3 #[.int .i64 0] ∧ Blk W (z + 2) 37 #[.int .i64 (stepsM f d0 pre).2])
      (fun T T' pre A B hi he => ⟨hi.1.ext (fun g h => by omega) he, hi.2.1, blk_ext hi.2.2.1 hi.1.ts (by omega) (by omega) he, blk_ext hi.2.2.2.1 hi.1.ts (by omega) (by omega) he, blk_ext hi.2.2.2.2.1 hi.1.ts (by omega) (by omega) he, blk_ext hi.2.2.2.2.2 hi.1.ts (by omega) (by omega) he⟩)
      (fun c T T' pre A B hi he => ⟨hi.1, hi.2.1.ext (fun g h => by omega) he, hi.2.2.1, blk_ext hi.2.2.2.1 hi.2.1.ts (by omega) (by omega) he, blk_ext hi.2.2.2.2 hi.2.1.ts (by omega) (by omega) he⟩)
      ⟨InvG.start (fun k hk => List.mem_singleton.1 hk) (by omega), rfl, k1, k2, k3, k4⟩
      ?_ (fun _ W => W) (fun _ _ => Below.refl _ _) (fun _ _ _ _ h => h) ?assign ?body ?done ?stop
    case assign =>
      intro l x W K hK
      dsimp only [encS]
      gi_wp2
      exact hK
    case body =>
      intro l T pre x W W' o hsp _ _ hW' ⟨hI, h2, m1, m2, m3, m4⟩
      clear hW'
      have hA := Lib.hid (hFs.out W' (fun g hg => hI.block g (by omega) (by omega)) (by have := hI.n0; omega))
      have m0 : Blk W' z 24 #[.pointer (some ⟨p, 0, none⟩)] := (hI.block z (by omega) (by omega)).trans k0
      obtain ⟨cur, hcur⟩ : ∃ c, (stepsM f d0 pre).1 = c := ⟨_, rfl⟩
      have hlc := steps_live hclH.out pre d0 hlv2.out h2
      rw [hcur] at hlc m3
      obtain ⟨J, hJ⟩ := Option.isSome_iff_exists.1 hlc
      have hst := Lib.hid (step_any hA.out hJ hfH.out x)
      have y0 : W'.cell? ⟨z, 0, none⟩ = some (.pointer (some ⟨p, 0, none⟩)) := m0.cell 0
      have y3 : W'.cell? ⟨z + 1 + 1 + 1, 0, none⟩ = some (.int .i64 cur) := m3.cell 0
      have hok := steps_ok f x pre d0 h2
      have hno := steps_no f x pre d0 h2
      rw [hcur] at hok hno
      obtain ⟨r, hr⟩ : ∃ r, stepM f cur x = r := ⟨_, rfl⟩
      rw [hr] at hst hok hno
      obtain ⟨rn, re⟩ := r
      dsimp only at hst hok hno
      have hokH := Lib.hid hok
      have hnoH := Lib.hid hno
      have hIH := Lib.hid hI
      have mH := Lib.hid (And.intro m1 (And.intro m2 (And.intro m3 m4)))
      clear hI hok hno hr hcur m0 m1 m2 m3 m4 hJ hlc h2
      by_cases hre : re = 0
      · subst hre
        gi_wp2_with fail
        refine ⟨trivial, (fun h => by cases h), ?_⟩
        refine (CallsIn.inRound l (callsIn_wide.2 hst.out)).mono ?_
        rintro e W2 ⟨rfl, hb⟩
        have q3 := Lib.hid (blk_beneath mH.out.2.2.1 hb)
        have q4 := Lib.hid (blk_beneath mH.out.2.2.2 hb)
        have x3 : W2.cell? ⟨z + 1 + 1 + 1, 0, none⟩ = some (.int .i64 cur) := q3.out.cell 0
        have g3 : W2.frozen? ⟨z + 1 + 1 + 1, 0, none⟩ = false := q3.out.frozen 0
        have x4 : W2.cell? ⟨z + 1 + 1 + 1 + 1, 0, none⟩ = some (.int .i64 0) := q4.out.cell 0
        have g4 : W2.frozen? ⟨z + 1 + 1 + 1 + 1, 0, none⟩ = false := q4.out.frozen 0
        have hbH := Lib.hid hb
        clear hb
        gi_wp2
        refine ⟨⟨((hIH.out.below hbH.out).set (c := z + 3) (.inl (by omega)) _).set (c := z + 4) (.inl (by omega)) _, by rw [hokH.out (by simp)], ((blk_beneath mH.out.1 hbH.out).far (by show z + 1 ≠ z + 3; omega) _).far (by show z + 1 ≠ z + 4; omega) _, ((blk_beneath mH.out.2.1 hbH.out).far (by show z + 2 ≠ z + 3; omega) _).far (by show z + 2 ≠ z + 4; omega) _, ?_, ?_⟩, keepsT hIH.out (by simp only [World.size_setCell]; exact hbH.out.size) (fun g hg hl => (Below.heap_setCell _ _ _ _ (fun e => by have e' : g = z + 4 := e; omega)).trans ((Below.heap_setCell _ _ _ _ (fun e => by have e' : g = z + 3 := e; omega)).trans (hbH.out.block g hl))), trivial⟩
        · rw [hokH.out (by simp)]; exact (q3.out.set_ 0 (.int .i64 rn)).far (by show z + 3 ≠ z + 4; omega) _
        · exact (q4.out.far (by show z + 4 ≠ z + 3; omega) _).set_ 0 (.int .i64 0)
      · have he2 : ((re : Int) != 0) = true := by simp; omega
        have hreH := Lib.hid hre
        clear hre
        gi_wp2_with fail
        refine ⟨trivial, (fun h => by cases h), ?_⟩
        refine (CallsIn.inRound l (callsIn_wide.2 hst.out)).mono ?_
        rintro e W2 ⟨rfl, hb⟩
        have q1 := Lib.hid (blk_beneath mH.out.1 hb)
        have q2 := Lib.hid (blk_beneath mH.out.2.1 hb)
        have q3 := Lib.hid (blk_beneath mH.out.2.2.1 hb)
        have q4 := Lib.hid (blk_beneath mH.out.2.2.2 hb)
        have x1 : W2.cell? ⟨z + 1, 0, none⟩ = some (.int .i64 0) := q1.out.cell 0
        have g1 : W2.frozen? ⟨z + 1, 0, none⟩ = false := q1.out.frozen 0
        have x2 : W2.cell? ⟨z + 1 + 1, 0, none⟩ = some (.int .i64 0) := q2.out.cell 0
        have g2 : W2.frozen? ⟨z + 1 + 1, 0, none⟩ = false := q2.out.frozen 0
        have x3 : W2.cell? ⟨z + 1 + 1 + 1, 0, none⟩ = some (.int .i64 cur) := q3.out.cell 0
        have g3 : W2.frozen? ⟨z + 1 + 1 + 1, 0, none⟩ = false := q3.out.frozen 0
        have x4 : W2.cell? ⟨z + 1 + 1 + 1 + 1, 0, none⟩ = some (.int .i64 0) := q4.out.cell 0
        have g4 : W2.frozen? ⟨z + 1 + 1 + 1 + 1, 0, none⟩ = false := q4.out.frozen 0
        have hbH := Lib.hid hb
        clear hb
        gi_wp2
        gi_region
        all_goals
          gi_wp2
          have hnx := hnoH.out hreH.out
          refine ⟨⟨rfl, ?_, by rw [hnx]; exact hreH.out, ?_, ?_⟩, keepsT hIH.out (by simp only [World.drew, World.size_setCell]; exact hbH.out.size) (fun g hg hl => ?_)⟩
          · first
              | exact (((((hIH.out.below hbH.out).set (c := z + 3) (.inl (by omega)) _).set (c := z + 4) (.inl (by omega)) _).set (c := z + 1) (.inl (by omega)) _).set (c := z + 2) (.inl (by omega)) _).drew
              | exact (((((hIH.out.below hbH.out).set (c := z + 3) (.inl (by omega)) _).set (c := z + 4) (.inl (by omega)) _).set (c := z + 2) (.inl (by omega)) _).set (c := z + 1) (.inl (by omega)) _).drew
          · first
              | exact (((q1.out.far (p := ⟨z + 3, 0, none⟩) (by show z + 1 ≠ z + 3; omega) _).far (p := ⟨z + 4, 0, none⟩) (by show z + 1 ≠ z + 4; omega) _).set_ 0 (.int .i64 0)).far (p := ⟨z + 2, 0, none⟩) (by show z + 1 ≠ z + 2; omega) _
              | exact (((q1.out.far (p := ⟨z + 3, 0, none⟩) (by show z + 1 ≠ z + 3; omega) _).far (p := ⟨z + 4, 0, none⟩) (by show z + 1 ≠ z + 4; omega) _).far (p := ⟨z + 2, 0, none⟩) (by show z + 1 ≠ z + 2; omega) _).set_ 0 (.int .i64 0)
          · rw [hnx]
            first
              | exact (((q2.out.far (p := ⟨z + 3, 0, none⟩) (by show z + 2 ≠ z + 3; omega) _).far (p := ⟨z + 4, 0, none⟩) (by show z + 2 ≠ z + 4; omega) _).far (p := ⟨z + 1, 0, none⟩) (by show z + 2 ≠ z + 1; omega) _).set_ 0 (.int .i64 re)
              | exact (((q2.out.far (p := ⟨z + 3, 0, none⟩) (by show z + 2 ≠ z + 3; omega) _).far (p := ⟨z + 4, 0, none⟩) (by show z + 2 ≠ z + 4; omega) _).set_ 0 (.int .i64 re)).far (p := ⟨z + 1, 0, none⟩) (by show z + 2 ≠ z + 1; omega) _
          · exact (Below.heap_setCell _ _ _ _ (fun e => by dsimp only at e; omega)).trans ((Below.heap_setCell _ _ _ _ (fun e => by dsimp only at e; omega)).trans ((Below.heap_setCell _ _ _ _ (fun e => by dsimp only at e; omega)).trans ((Below.heap_setCell _ _ _ _ (fun e => by dsimp only at e; omega)).trans (hbH.out.block g hl))))
    case done =>
      rintro D T xs W hD _ rfl ⟨hI, h2, m1, m2, m3, m4⟩ hK
      have hA := Lib.hid (hFs.out W (fun g hg => hI.block g (by omega) (by omega)) (by have := hI.n0; omega))
      have m0 : Blk W z 24 #[.pointer (some ⟨p, 0, none⟩)] := (hI.block z (by omega) (by omega)).trans k0
      have hlc := steps_live hclH.out (pieces s) d0 hlv2.out h2
      have hR2 := hRH.out
      rw [if_neg (fun h => h h2)] at hR2
      obtain ⟨cur, hcur⟩ : ∃ c, (stepsM f d0 (pieces s)).1 = c := ⟨_, rfl⟩
      rw [hcur] at hlc m3 hR2
      obtain ⟨J, hJ⟩ := Option.isSome_iff_exists.1 hlc
      have hid : isDir f cur = J.isDir := by unfold isDir; rw [hJ]
      obtain ⟨i, q, rfl, _, _, i4, dv, ev, i5⟩ := node_where hA.out hJ
      have hno := Lib.hid (node_yes hA.out i4 (by have := hfH.out.1; omega))
      have hdi := Lib.hid (isDir_any i5)
      have y0 : W.cell? ⟨z, 0, none⟩ = some (.pointer (some ⟨p, 0, none⟩)) := m0.cell 0
      have y1 : W.cell? ⟨z + 1, 0, none⟩ = some (.int .i64 0) := m1.cell 0
      have f1 : W.frozen? ⟨z + 1, 0, none⟩ = false := m1.frozen 0
      have y2 : W.cell? ⟨z + 1 + 1, 0, none⟩ = some (.int .i64 0) := m2.cell 0
      have f2 : W.frozen? ⟨z + 1 + 1, 0, none⟩ = false := m2.frozen 0
      have y3 : W.cell? ⟨z + 1 + 1 + 1, 0, none⟩ = some (.int .i64 ((i : Int) + 1)) := m3.cell 0
      have hIH := Lib.hid hI
      have mH := Lib.hid (And.intro m1 m2)
      have hKH := Lib.hid hK
      have hend : Hid (∀ u v : Value, ∀ W2, W2 = (W.setCell ⟨z + 1, 0, none⟩ u).setCell ⟨z + 2, 0, none⟩ v → W2.heap[D]? = some (.deferred (some [])) ∧ (W2.putObj D (.deferred none)).cell? ⟨z + 1, 0, none⟩ = some u ∧ (W2.putObj D (.deferred none)).cell? ⟨z + 2, 0, none⟩ = some v ∧ Below w.heap.size w (W2.putObj D (.deferred none))) := Lib.hid (fun u v W2 e => by
        subst e
        have hD2 : ((W.setCell ⟨z + 1, 0, none⟩ u).setCell ⟨z + 2, 0, none⟩ v).heap[D]? = some (.deferred (some [])) := (Below.heap_setCell _ _ _ _ (fun e => by dsimp only at e; omega)).trans ((Below.heap_setCell _ _ _ _ (fun e => by dsimp only at e; omega)).trans hK)
        have b1 : Blk (((W.setCell ⟨z + 1, 0, none⟩ u).setCell ⟨z + 2, 0, none⟩ v).putObj D (.deferred none)) (z + 1) 3 #[u] := (World.putObj_heap_other (by omega)).trans ((m1.set_ 0 u).far (p := ⟨z + 2, 0, none⟩) (by show z + 1 ≠ z + 2; omega) v)
        have b2 : Blk (((W.setCell ⟨z + 1, 0, none⟩ u).setCell ⟨z + 2, 0, none⟩ v).putObj D (.deferred none)) (z + 2) 37 #[v] := (World.putObj_heap_other (by omega)).trans ((m2.far (p := ⟨z + 1, 0, none⟩) (by show z + 2 ≠ z + 1; omega) u).set_ 0 v)
        refine ⟨hD2, b1.cell 0, b2.cell 0, ?_⟩
        have hbW := hI.toBelow (w := w) (by rw [hz]; exact hb0.out) (fun g hg => by omega) (by omega)
        exact ((hbW.setCell (p := ⟨z + 1, 0, none⟩) (by show w.heap.size ≤ z + 1; omega) u).setCell (p := ⟨z + 2, 0, none⟩) (by show w.heap.size ≤ z + 2; omega) v).trans (belowK_b (w := w) (Nat.le_refl _) _ D _ _ (by omega) hD2 rfl rfl))
      clear hI m0 m1 m2 m3 m4 hlc hJ hA i4 i5 hK h2 hcur
      rw [hid] at hR2
      cases hsd : slashed s with
      | false =>
        rw [hsd] at hsl hR2
        rw [if_neg (by simp)] at hR2
        subst hR2
        gi_wp2_with (refine ⟨trivial, ?_⟩; gi_at_call 42; refine (callsIn_wide.2 (hsl.out _)).mono ?_; rintro e w' ⟨rfl, rfl⟩)
        refine ⟨trivial, ?_⟩
        gi_wp2
        refine ⟨trivial, ?_⟩
        gi_wp2
        obtain ⟨hD2, q1, q2, hbl⟩ := hend.out (.int .i64 ((i : Int) + 1)) (.int .i64 0) _ rfl
        refine ⟨by simp, .inl ⟨_, _, rfl, run_takeDeferred hD2, ?_⟩⟩
        refine ⟨.tuple #[.int .i64 ((i : Int) + 1), .int .i64 0], ?_, rfl, hzH.out ▸ hbl⟩
        simp [results, Try.results51, go_sem, q1, q2]
      | true =>
        rw [hsd] at hsl hR2
        cases hjd : J.isDir with
        | true =>
          rw [hjd] at hdi hR2
          rw [if_neg (by simp)] at hR2
          subst hR2
          gi_wp2_with (first | (refine ⟨trivial, ?_⟩; gi_at_call 42; refine (callsIn_wide.2 (hsl.out _)).mono ?_; rintro e w' ⟨rfl, rfl⟩) | (refine ⟨trivial, ?_⟩; gi_at_call 38; refine (callsIn_wide.2 hno.out).mono ?_; rintro e w' ⟨rfl, rfl⟩) | (refine ⟨trivial, ?_⟩; gi_at_call 49; refine (callsIn_wide.2 hdi.out).mono ?_; rintro e w' ⟨rfl, rfl⟩))
          obtain ⟨hD2, q1, q2, hbl⟩ := hend.out (.int .i64 ((i : Int) + 1)) (.int .i64 0) _ rfl
          refine ⟨by simp, .inl ⟨_, _, rfl, run_takeDeferred hD2, ?_⟩⟩
          refine ⟨.tuple #[.int .i64 ((i : Int) + 1), .int .i64 0], ?_, rfl, hzH.out ▸ hbl⟩
          simp [results, Try.results51, go_sem, q1, q2]
        | false =>
          rw [hjd] at hdi hR2
          rw [if_pos (by simp)] at hR2
          subst hR2
          gi_wp2_with (first | (refine ⟨trivial, ?_⟩; gi_at_call 42; refine (callsIn_wide.2 (hsl.out _)).mono ?_; rintro e w' ⟨rfl, rfl⟩) | (refine ⟨trivial, ?_⟩; gi_at_call 38; refine (callsIn_wide.2 hno.out).mono ?_; rintro e w' ⟨rfl, rfl⟩) | (refine ⟨trivial, ?_⟩; gi_at_call 49; refine (callsIn_wide.2 hdi.out).mono ?_; rintro e w' ⟨rfl, rfl⟩))
          obtain ⟨hD2, q1, q2, hbl⟩ := hend.out (.int .i64 0) (.int .i64 20) _ rfl
          refine ⟨by simp, .inl ⟨_, _, rfl, run_takeDeferred hD2, ?_⟩⟩
          refine ⟨.tuple #[.int .i64 0, .int .i64 20], ?_, rfl, hzH.out ▸ hbl⟩
          simp [results, Try.results51, go_sem, q1, q2]
    case stop =>
      rintro D c T pre W hD _ hsp ⟨rfl, hI, h2, m1, m2⟩ hK
      have hR2 := hRH.out
      obtain ⟨t, ht⟩ := hsp
      have hbad := steps_bad f pre t d0 h2
      rw [ht] at hbad
      rw [hbad, if_pos h2] at hR2
      subst hR2
      have b1 : Blk (W.putObj D (.deferred none)) (z + 1) 3 #[.int .i64 0] := (World.putObj_heap_other (by omega)).trans m1
      have b2 : Blk (W.putObj D (.deferred none)) (z + 2) 37 #[.int .i64 (stepsM f d0 pre).2] := (World.putObj_heap_other (by omega)).trans m2
      have q1 : (W.putObj D (.deferred none)).cell? ⟨z + 1, 0, none⟩ = some (.int .i64 0) := b1.cell 0
      have q2 : (W.putObj D (.deferred none)).cell? ⟨z + 2, 0, none⟩ = some (.int .i64 (stepsM f d0 pre).2) := b2.cell 0
      have hbW : Below w.heap.size w (W.putObj D (.deferred none)) := (hI.toBelow (w := w) (by rw [hz]; exact hb0.out) (fun g hg => by omega) (by omega)).trans (belowK_b (w := w) (Nat.le_refl _) W D _ _ (by omega) hK rfl rfl)
      have hKH := Lib.hid hK
      clear hI m1 m2 h2 hbad ht b1 b2 hK
      gi_wp2
      refine ⟨by simp, .inl ⟨_, _, rfl, run_takeDeferred hKH.out, ?_⟩⟩
      refine ⟨.tuple #[.int .i64 0, .int .i64 (stepsM f d0 pre).2], ?_, rfl, hzH.out ▸ hbW⟩
      simp [results, Try.results51, go_sem, q1, q2]
  · dsimp only at hW hbe
    rw [hW.out, if_pos he]
    have he2 : ((e0 : Int) != 0) = true := by simp; omega
    obtain ⟨w1, hw1⟩ : ∃ x, ((((w.alloc (.cells #[.pointer (some ⟨p, 0, none⟩)] 24)).alloc (.cells #[.int .i64 0] 3)).alloc (.cells #[.int .i64 0] 37)).alloc (.cells #[.int .i64 d0] 3)).alloc (.cells #[.int .i64 e0] 37) = x := ⟨_, rfl⟩
    have hb1 : Hid (Below z w w1) := Lib.hid (by rw [← hw1, ← hz]; exact ((((alB _ _).alloc (by simp) _).alloc (by simp; omega) _).alloc (by simp; omega) _).alloc (by simp; omega) _)
    have k1 : Blk w1 (z + 1) 3 #[.int .i64 0] := by rw [← hw1]; exact (((newB _ _ (z + 1) (by simp [hz])).alloc _).alloc _).alloc _
    have k2 : Blk w1 (z + 2) 37 #[.int .i64 0] := by rw [← hw1]; exact ((newB _ _ (z + 2) (by simp [hz])).alloc _).alloc _
    have k4 : Blk w1 (z + 4) 37 #[.int .i64 e0] := by rw [← hw1]; exact newB _ _ (z + 4) (by simp [hz])
    have hw1H := Lib.hid hw1
    have x1 : w1.cell? ⟨z + 1, 0, none⟩ = some (.int .i64 0) := k1.cell 0
    have g1 : w1.frozen? ⟨z + 1, 0, none⟩ = false := k1.frozen 0
    have x2 : w1.cell? ⟨z + 1 + 1, 0, none⟩ = some (.int .i64 0) := k2.cell 0
    have g2 : w1.frozen? ⟨z + 1 + 1, 0, none⟩ = false := k2.frozen 0
    have x4 : w1.cell? ⟨z + 1 + 1 + 1 + 1, 0, none⟩ = some (.int .i64 e0) := k4.cell 0
    have kH := Lib.hid (And.intro k1 k2)
    clear hw1 k1 k2 k4 hlv
    gi_upto_region 3 with (refine ⟨trivial, ?_⟩; gi_at_call 63; refine (callsIn_wide.2 (hbe.out _)).mono ?_; rintro e w' ⟨rfl, rfl⟩)
    rw [hw1H.out]
    have hF : Hid (∀ W2, (W2 = (w1.setCell ⟨z + 1, 0, none⟩ (.int .i64 0)).setCell ⟨z + 2, 0, none⟩ (.int .i64 e0) ∨ W2 = (w1.setCell ⟨z + 2, 0, none⟩ (.int .i64 e0)).setCell ⟨z + 1, 0, none⟩ (.int .i64 0)) → W2.drew.cell? ⟨z + 1, 0, none⟩ = some (.int .i64 0) ∧ W2.drew.cell? ⟨z + 2, 0, none⟩ = some (.int .i64 e0) ∧ Below z w W2.drew) := Lib.hid (fun W2 e => by
      rcases e with rfl | rfl
      · have hbb := (hb1.out.setCell (p := ⟨z + 1, 0, none⟩) (by show z ≤ z + 1; omega) (.int .i64 0)).setCell (p := ⟨z + 2, 0, none⟩) (by show z ≤ z + 2; omega) (.int .i64 e0)
        exact ⟨((kH.out.1.set_ 0 (.int .i64 0)).far (p := ⟨z + 2, 0, none⟩) (by show z + 1 ≠ z + 2; omega) _).cell 0, ((kH.out.2.far (p := ⟨z + 1, 0, none⟩) (by show z + 2 ≠ z + 1; omega) _).set_ 0 (.int .i64 e0)).cell 0, ⟨hbb.os, hbb.tape, hbb.output, hbb.size, hbb.block⟩⟩
      · have hbb := (hb1.out.setCell (p := ⟨z + 2, 0, none⟩) (by show z ≤ z + 2; omega) (.int .i64 e0)).setCell (p := ⟨z + 1, 0, none⟩) (by show z ≤ z + 1; omega) (.int .i64 0)
        exact ⟨((kH.out.1.far (p := ⟨z + 2, 0, none⟩) (by show z + 1 ≠ z + 2; omega) _).set_ 0 (.int .i64 0)).cell 0, ((kH.out.2.set_ 0 (.int .i64 e0)).far (p := ⟨z + 1, 0, none⟩) (by show z + 2 ≠ z + 1; omega) _).cell 0, ⟨hbb.os, hbb.tape, hbb.output, hbb.size, hbb.block⟩⟩)
    gi_region
    all_goals
      gi_wp2
      obtain ⟨qa, qb, hbl⟩ := hF.out _ (by first | exact .inl rfl | exact .inr rfl)
      refine ⟨.tuple #[.int .i64 0, .int .i64 e0], ?_, rfl, hbl⟩
      simp [results, Try.results51, go_sem, qa, qb]
theorem walk_any (h : FsAt w B p f sv ps) (hf : FineF f) (hcl : Closed f) (dir : Int) (hd : (node f dir).isSome) (s : ByteArray) (hs : s.size ≤ maxLen) :
    Calls Try.prog 51 #[.pointer (some ⟨p, 0, none⟩), .int .i64 dir, .string s] w fun e w' => e = .returned (.tuple #[.int .i64 (walkM f dir s).1, .int .i64 (walkM f dir s).2]) ∧ Below w.heap.size w w' := callsIn_wide.1 (walk_in 3 (Nat.le_refl _) h hf hcl dir hd s hs)
end
end Go.Proofs.Ytohgecmbkjienaa
