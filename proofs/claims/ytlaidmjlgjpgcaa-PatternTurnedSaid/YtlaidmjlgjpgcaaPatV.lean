/- Cut, of the program. Condition: lengths. -/
import Derived.Test.YtlaidmjlgjpgcaaQR
namespace Go.Proofs.Ytlaidmjlgjpgcaa
open Go.RowKit Go.Shelf Go.PlainAid
attribute [local go_sem] Oper.semAt_some

def tak (s : ByteArray) (en : Bool) (k : Nat) : ByteArray := bif en then s.extract (s.size - k) s.size else s.extract 0 k
def lef (s : ByteArray) (en : Bool) (k : Nat) : ByteArray := bif en then s.extract 0 (s.size - k) else s.extract k s.size
/-- What is left of a text. -/
def CutP (M : ByteArray → Prop) (s : ByteArray) (en lo : Bool) (t : ByteArray) : Prop :=
  (∃ j, j ≤ s.size ∧ M (tak s en (lenAt s.size lo j)) ∧ (∀ i, i < j → ¬ M (tak s en (lenAt s.size lo i))) ∧ t = lef s en (lenAt s.size lo j)) ∨ ((∀ j, j ≤ s.size → ¬ M (tak s en (lenAt s.size lo j))) ∧ t = s)
theorem CutP.unique {M : ByteArray → Prop} {s : ByteArray} {en lo : Bool} {t t' : ByteArray} (h : CutP M s en lo t) (h' : CutP M s en lo t') : t = t' := by
  rcases h with ⟨j, h1, h2, h3, h4⟩ | ⟨h1, h2⟩ <;> rcases h' with ⟨j', k1, k2, k3, k4⟩ | ⟨k1, k2⟩
  · rcases Nat.lt_trichotomy j j' with g | g | g
    · exact absurd h2 (k3 j g)
    · rw [h4, k4, g]
    · exact absurd k2 (h3 j' g)
  · exact absurd h2 (k1 j h1)
  · exact absurd k2 (h1 j' k1)
  · rw [h2, k2]
theorem lenAt_le {n : Nat} {lo : Bool} {j : Nat} (h : j ≤ n) : lenAt n lo j ≤ n := by unfold lenAt; cases lo <;> simp <;> omega
theorem lens_le {n : Nat} {lo : Bool} {k : Nat} (h : k ∈ lens n lo) : k ≤ n := by
  unfold lens at h
  obtain ⟨j, hj, rfl⟩ := List.mem_map.1 h
  rw [List.mem_range] at hj
  exact lenAt_le (by omega)
theorem lens_get {n : Nat} {lo : Bool} {i k : Nat} (h : (lens n lo)[i]? = some k) : i ≤ n ∧ k = lenAt n lo i := by
  have hi := (List.getElem?_eq_some_iff.1 h).1
  rw [lens_len] at hi
  unfold lens at h
  rw [List.getElem?_map, List.getElem?_range (by omega)] at h
  exact ⟨by omega, (Option.some.inj h).symm⟩
theorem lens_at {n : Nat} {lo : Bool} {i : Nat} (h : i ≤ n) : (lens n lo)[i]? = some (lenAt n lo i) := by
  unfold lens; rw [List.getElem?_map, List.getElem?_range (by omega)]; rfl
theorem cutP_some {M : ByteArray → Prop} {s : ByteArray} {en lo : Bool} {pre : List Nat} {x : Nat} (hp : pre ++ [x] <+: lens s.size lo) (hx : M (tak s en x)) (hno : ∀ k ∈ pre, ¬ M (tak s en k)) : CutP M s en lo (lef s en x) := by
  obtain ⟨r, hr⟩ := hp
  have h1 : (lens s.size lo)[pre.length]? = some x := by rw [← hr, List.append_assoc, List.getElem?_append_right (Nat.le_refl _)]; simp
  obtain ⟨hj, rfl⟩ := lens_get h1
  refine .inl ⟨pre.length, hj, hx, fun i hi => ?_, rfl⟩
  have h2 : (lens s.size lo)[i]? = pre[i]? := by rw [← hr, List.append_assoc, List.getElem?_append_left hi]
  rw [lens_at (by omega)] at h2
  exact hno _ (List.mem_of_getElem? h2.symm)
theorem cutP_none {M : ByteArray → Prop} {s : ByteArray} {en lo : Bool} (hno : ∀ k ∈ lens s.size lo, ¬ M (tak s en k)) : CutP M s en lo s :=
  .inr ⟨fun _ hj => hno _ (List.mem_of_getElem? (lens_at hj)), rfl⟩
def MatB (p : List Ch) (t : ByteArray) : Prop := Mat (els p 0) t.data.toList
def CutR (p : List Ch) (s : ByteArray) (en lo : Bool) (w : World) (e : Ending) (w' : World) : Prop := Below w.heap.size w w' ∧ ∃ t, e = .returned (.string t) ∧ CutP (MatB p) s en lo t
theorem keepsOthers_drewN (W : World) (m : Nat) : KeepsOthers W (W.drewN m) := ⟨Nat.le_refl _, fun _ _ h _ => h⟩

theorem tak_size (s : ByteArray) (en : Bool) (k : Nat) : (tak s en k).size ≤ s.size := by
  unfold tak
  cases en
  · show (s.extract 0 k).size ≤ _; rw [ByteArray.size_extract]; omega
  · show (s.extract _ _).size ≤ _; rw [ByteArray.size_extract]; omega

def CutI (p : List Ch) (s : ByteArray) (en : Bool) (n1 : Nat) (W0 : World) (pre : List Nat) (W : World) : Prop := Below n1 W0 W ∧ ∀ k ∈ pre, ¬ MatB p (tak s en (min k s.size))
def CutX (p : List Ch) (s : ByteArray) (en : Bool) (n₀ br : Nat) (w : World) (c : Code) (pre : List Nat) (W : World) : Prop :=
  (c = .ret ∧ (∃ q x, pre = q ++ [x] ∧ MatB p (tak s en (min x s.size)) ∧ (∀ k ∈ q, ¬ MatB p (tak s en (min k s.size))) ∧ Boxed W br 9 (.string (lef s en (min x s.size))))) ∧ Below n₀ w W
theorem cutX_own {p : List Ch} {s : ByteArray} {en : Bool} {n₀ br B : Nat} {w : World} (hn : n₀ ≤ w.heap.size) (hB : n₀ ≤ B) : ∀ c, OwnFrom B (CutX p s en n₀ br w c) := by
  intro c q W W' row h hg hr
  obtain ⟨⟨hc, q', x, h1, h2, h3, h4⟩, h5⟩ := h
  exact ⟨⟨hc, q', x, h1, h2, h3, (boxed_own (β := Unit) br 9 (fun _ => _)) () W W' row h4 hg (fun r e => (hr r e).2)⟩, ownFrom_below (β := Unit) hn hB () W W' row h5 hg hr⟩

set_option maxRecDepth 100000 in
set_option maxHeartbeats 4000000 in
theorem cut_in (av : Option Addr) (n cv : Nat) (p : List Ch) (s : ByteArray) (en lo : Bool) (w : World) (hn : p.length = n) (hP : ChsAt w.heap.size w av p) (hn2 : n ≤ 1000000) (hs : s.size ≤ 1000000) :
    CallsIn Fence.wide 6 Try.prog 20 #[.slice av n cv, .string s, .bool en, .bool lo] w (CutR p s en lo w) := by
  refine callsIn_of_wp_marks Try.func20 rfl trivial ?_ rfl
  simp only [Try.ntmps20, List.size_toArray, List.length_cons, List.length_nil, Nat.reduceAdd, Nat.reduceSub, Array.replicate_succ, Array.replicate_zero, List.push_toArray, List.append_toArray, List.nil_append, List.cons_append]
  have hnH := Lib.hid hn
  have hlen := els_len p _ 0 (Nat.le_refl _)
  rw [hn] at hlen
  obtain ⟨n₀, hn₀⟩ : ∃ n₀, w.heap.size = n₀ := ⟨_, rfl⟩
  have hn₀H := Lib.hid hn₀
  have hnw : n₀ ≤ w.heap.size := by omega
  obtain ⟨wA, hwA⟩ : ∃ wA, ((w.alloc (.cells #[.string s] 9)).alloc (.cells #[.bool en] 4)).alloc (.cells #[.string ⟨#[]⟩] 9) = wA := ⟨_, rfl⟩
  have hsA : wA.heap.size = n₀ + 3 := by rw [← hwA]; simp [hn₀]
  have hBA : Hid (Below n₀ w wA) := Lib.hid (by rw [← hwA]; exact (((Below.refl n₀ w).alloc hnw _).alloc (by simp; omega) _).alloc (by simp; omega) _)
  have b0 : Hid (Boxed wA n₀ 9 (.string s)) := Lib.hid (by rw [← hwA, ← hn₀]; exact ((Boxed.new _ _ _).alloc _).alloc _)
  have b1 : Hid (Boxed wA (n₀ + 1) 4 (.bool en)) := Lib.hid (by
    have x := (Boxed.new (w.alloc (.cells #[.string s] 9)) 4 (.bool en)).alloc (.cells #[.string ⟨#[]⟩] 9)
    rw [World.size_alloc, hn₀] at x
    rw [← hwA]; exact x)
  have b2 : Hid (Boxed wA (n₀ + 1 + 1) 9 (.string ⟨#[]⟩)) := Lib.hid (by
    have x := Boxed.new ((w.alloc (.cells #[.string s] 9)).alloc (.cells #[.bool en] 4)) 9 (.string ⟨#[]⟩)
    rw [World.size_alloc, World.size_alloc, hn₀] at x
    rw [← hwA]; exact x)
  have hwAH := Lib.hid hwA
  have hel := Lib.hid (elements_any av n cv p wA hn ((hP.below (by rw [hn₀]; exact hBA.out)).mono (by omega)) hn2)
  clear hn hP hwA
  gi_upto_region 1 with fail
  rw [hwAH.out]
  gi_upto_region 2 with (refine ⟨trivial, ?_⟩; gi_at_call 33; refine (callsIn_wide.2 hel.out).mono ?_; rintro e w2 ⟨hb2, v, rfl, hE⟩; obtain ⟨a1, c1, rfl, hA⟩ := hE.at_)
  obtain ⟨b9, hb9⟩ : ∃ b9, w2.heap.size = b9 := ⟨_, rfl⟩
  have hb9A : n₀ + 3 ≤ b9 := by have := hb2.size; omega
  obtain ⟨L, hL⟩ : ∃ L, (els p 0).length = L := ⟨_, rfl⟩
  rw [hL] at hlen
  rw [hL, hb9]
  obtain ⟨w3, hw3⟩ : ∃ w3, w2.alloc (.cells #[.slice a1 L c1] 54) = w3 := ⟨_, rfl⟩
  have hs3 : w3.heap.size = b9 + 1 := by rw [← hw3]; simp [hb9]
  have b9b : Hid (Boxed w3 b9 54 (.slice a1 L c1)) := Lib.hid (by rw [← hw3, ← hb9]; exact Boxed.new _ _ _)
  have hA3 : Hid (ElsAt b9 w3 a1 (els p 0)) := Lib.hid (by
    rw [← hw3]
    intro i e he
    obtain ⟨b, off, x, h1, h2, h3, h4, h5⟩ := hA i e he
    rw [hb9] at h2
    have hal : ∀ o, (w2.alloc (.cells #[.slice a1 L c1] 54)).cell? ⟨b, o, none⟩ = w2.cell? ⟨b, o, none⟩ := fun o => World.cell?_alloc_lt w2 _ ⟨b, o, none⟩ (by show b < _; omega)
    exact ⟨b, off, x, h1, h2, (hal _).trans h3, fun k hk => (hal _).trans (h4 k hk), h5⟩)
  have hB23 : Below wA.heap.size wA w3 := by rw [← hw3]; exact hb2.alloc hb2.size _
  have c3 : Boxed w3 n₀ 9 (.string s) := (hB23.block _ (by omega)).trans b0.out
  have d3 : Boxed w3 (n₀ + 1) 4 (.bool en) := (hB23.block _ (by omega)).trans b1.out
  have e3 : Boxed w3 (n₀ + 1 + 1) 9 (.string ⟨#[]⟩) := (hB23.block _ (by omega)).trans b2.out
  have hB3 : Hid (Below n₀ w w3) := Lib.hid (hBA.out.trans (hB23.mono (by omega)))
  have k0 := c3.cell
  have c3H := Lib.hid c3
  have d3H := Lib.hid d3
  have e3H := Lib.hid e3
  have hLH := Lib.hid hL
  rw [hw3]
  have hs3H := Lib.hid hs3
  clear hel hb2 hE hA hb9 hL hw3 c3 d3 e3 hB23 hs3
  gi_wp2_with (refine ⟨trivial, ?_⟩; gi_at_call 37; refine (callsIn_wide.2 (lengths_any s.size lo _)).mono ?_; rintro e w7 ⟨rfl, rfl⟩)
  rw [hs3H.out]
  obtain ⟨W0, hW0⟩ : ∃ W0, (w3.alloc (.cells #[.int .i64 (s.size : Int)] 3)).alloc (.cells #[.bool lo] 4) = W0 := ⟨_, rfl⟩
  have hsW : W0.heap.size = b9 + 3 := by rw [← hW0]; simp [hs3H.out]
  have hB30 : Below w3.heap.size w3 W0 := by rw [← hW0]; exact ((Below.refl _ _).alloc (Nat.le_refl _) _).alloc (by simp) _
  have hRd : RdN (b9 + 3) (b9 + 1) (b9 + 1 + 1) s.size lo W0 := ⟨by
      rw [← hW0, ← hs3H.out]; exact (Boxed.new _ _ _).alloc _, by
      have x := Boxed.new (w3.alloc (.cells #[.int .i64 (s.size : Int)] 3)) 4 (.bool lo)
      rw [World.size_alloc, hs3H.out] at x
      rw [← hW0]; exact x, by omega, by omega, by omega⟩
  have hs30 := hs3H.out
  have g0 : Hid (Boxed W0 n₀ 9 (.string s)) := Lib.hid ((hB30.block _ (by omega)).trans c3H.out)
  have g1 : Hid (Boxed W0 (n₀ + 1) 4 (.bool en)) := Lib.hid ((hB30.block _ (by omega)).trans d3H.out)
  have g2 : Hid (Boxed W0 (n₀ + 1 + 1) 9 (.string ⟨#[]⟩)) := Lib.hid ((hB30.block _ (by omega)).trans e3H.out)
  have g9 : Hid (Boxed W0 b9 54 (.slice a1 L c1)) := Lib.hid ((hB30.block _ (by omega)).trans b9b.out)
  have gE : Hid (ElsAt b9 W0 a1 (els p 0)) := Lib.hid (by
    intro i e he
    obtain ⟨b, off, x, h1, h2, h3, h4, h5⟩ := hA3.out i e he
    exact ⟨b, off, x, h1, h2, (hB30.cell (p := ⟨b, off + i * 5, none⟩) (by show b < _; omega)).trans h3, fun k hk => (hB30.cell (p := ⟨b, off + i * 5 + 1 + k, none⟩) (by show b < _; omega)).trans (h4 k hk), h5⟩)
  have hB0 : Hid (Below n₀ w W0) := Lib.hid (hB3.out.trans (hB30.mono (by omega)))
  rw [hW0]
  clear hW0 hB30 k0
  apply wpIn_rangeFunc_ownF (n := 6) rfl (by omega) (gf := 52) (lb := #[.pointer (some ⟨b9 + 1, 0, none⟩), .pointer (some ⟨b9 + 1 + 1, 0, none⟩)]) rfl trivial (enters_of Try.func52 (by kernel_rfl) rfl)
    (lengths_stops 5 (by omega) (b9 + 1) (b9 + 1 + 1) (b9 + 3) s.size lo hs W0 hRd (by omega)) (fun h k => h.trans k) (belowK_b (w := W0) (by omega)) (Below.refl _ _) (fun _ => rfl)
    (CutI p s en (b9 + 3) W0) (CutX p s en n₀ (n₀ + 1 + 1) w)
    (fun q W W' row h hg hr => ⟨ownFrom_below (β := Unit) (n₀ := b9 + 3) (by omega) (by omega) () W W' row h.1 hg hr, h.2⟩)
    (cutX_own hnw (by omega))
    ⟨Below.refl _ _, fun k h => by simp at h⟩ ?_ ?assign ?body ?done ?stop
  case assign =>
    intro l x W K hK
    unfold encN
    gi_wp2
    exact hK
  case body =>
    clear hRd
    rintro l pre x W ⟨hB, hno⟩ hlt
    have hBH := Lib.hid hB
    have hnoH := Lib.hid hno
    have hszW := hB.size
    have q0 := (show Boxed W n₀ 9 (.string s) from (hB.block _ (by omega)).trans g0.out).cell
    have q1 := (show Boxed W (n₀ + 1) 4 (.bool en) from (hB.block _ (by omega)).trans g1.out).cell
    have r2 : Boxed W (n₀ + 1 + 1) 9 (.string ⟨#[]⟩) := (hB.block _ (by omega)).trans g2.out
    have q2 := r2.cell
    have f2 := r2.frozen
    have r2H := Lib.hid r2
    have q9 := (show Boxed W b9 54 (.slice a1 L c1) from (hB.block _ (by omega)).trans g9.out).cell
    have hEW : Hid (ElsAt W.heap.size W a1 (els p 0)) := Lib.hid (by
      intro i e he
      obtain ⟨b, off, y, h1, h2, h3, h4, h5⟩ := gE.out i e he
      exact ⟨b, off, y, h1, by omega, (hB.cell (p := ⟨b, off + i * 5, none⟩) (by show b < _; omega)).trans h3, fun k hk => (hB.cell (p := ⟨b, off + i * 5 + 1 + k, none⟩) (by show b < _; omega)).trans (h4 k hk), h5⟩)
    obtain ⟨m, hm⟩ : ∃ m, min x s.size = m := ⟨_, rfl⟩
    have hmn : m ≤ s.size := by omega
    have hmH := Lib.hid hm
    have hm0 : (0 : Int) ≤ (m : Int) := by omega
    have hmI : (m : Int) ≤ (s.size : Int) := by omega
    have hmx : Try.prog.follows Departure.mixedOrders = true := by kernel_rfl
    rw [hm]
    clear hB hno r2 hm
    cases en
    · have hM : Hid (∀ k, Calls Try.prog 32 #[.slice a1 L c1, .string (s.extract 0 m)] (W.drewN k) (MatR (MatB p (tak s false m)) (W.drewN k))) := Lib.hid (fun k => matches_any a1 L c1 (els p 0) (s.extract 0 m) (W.drewN k) hLH.out hEW.out (by omega) (Nat.le_trans (tak_size s false m) hs))
      gi_upto_region 4 with fail
      refine wpIn_region_quiet_round rfl (by kernel_rfl) (by kernel_rfl) (by kernel_rfl) ?_
      repeat (gi_big_quiet_step (fail))
      refine wpQuietIn_nil ?_
      intro _ hw'
      obtain ⟨nq, hw''⟩ := hw'
      subst hw''
      all_goals
        gi_wp2_with fail
        refine ⟨trivial, ?_⟩
        refine (CallsIn.inRound l (callsIn_wide.2 (hM.out _))).mono ?_
        rintro e w2 ⟨b, rfl, hb, k, rfl⟩
        have hbH := Lib.hid hb
        clear hb
        cases b
        · gi_wp2
          exact ⟨keepsOthers_drewN W _, below_drewN (Below.refl _ _) _, below_drewN hBH.out _, fun k' hk' => by
            rcases List.mem_append.1 hk' with g | g
            · exact hnoH.out k' g
            · rw [List.mem_singleton.1 g, hmH.out]
              exact fun h => by have := hbH.out.2 h; cases this⟩
        · gi_wp2
          exact ⟨(keepsOthers_drewN W _).trans (KeepsOthers.setCell _ _ _), ⟨by simp, pre, x, by simp, by rw [hmH.out]; exact hbH.out.1 (by simp), hnoH.out, by rw [hmH.out]; exact Boxed.set _ r2H.out⟩, (below_drewN (hB0.out.trans (hBH.out.mono (by omega))) _).setCell (p := ⟨n₀ + 1 + 1, 0, none⟩) (by show n₀ ≤ n₀ + 1 + 1; omega) _⟩
    · have hM : Hid (∀ k, Calls Try.prog 32 #[.slice a1 L c1, .string (s.extract (s.size - m) s.size)] (W.drewN k) (MatR (MatB p (tak s true m)) (W.drewN k))) := Lib.hid (fun k => matches_any a1 L c1 (els p 0) (s.extract (s.size - m) s.size) (W.drewN k) hLH.out hEW.out (by omega) (Nat.le_trans (tak_size s true m) hs))
      have hsub : IntKind.i64.wrap ((s.size : Int) - (m : Int)) = ((s.size - m : Nat) : Int) := by rw [IntWalk.i64_in _ (by omega)]; omega
      have hs0 : (0 : Int) ≤ ((s.size - m : Nat) : Int) := by omega
      have hs1 : ((s.size - m : Nat) : Int) ≤ (s.size : Int) := by omega
      gi_upto_region 4 with fail
      refine wpIn_region_quiet_round rfl (by kernel_rfl) (by kernel_rfl) (by kernel_rfl) ?_
      repeat (gi_big_quiet_step (fail))
      refine wpQuietIn_nil ?_
      intro _ hw'
      obtain ⟨nq, hw''⟩ := hw'
      subst hw''
      gi_upto_region 6 with fail
      refine wpIn_region_quiet_round rfl (by kernel_rfl) (by kernel_rfl) (by kernel_rfl) ?_
      repeat (gi_big_quiet_step (fail))
      refine wpQuietIn_nil ?_
      intro _ hw'
      obtain ⟨nq, hw''⟩ := hw'
      subst hw''
      all_goals
        gi_wp2_with fail
        refine ⟨trivial, ?_⟩
        refine (CallsIn.inRound l (callsIn_wide.2 (hM.out _))).mono ?_
        rintro e w2 ⟨b, rfl, hb, k, rfl⟩
        have hbH := Lib.hid hb
        clear hb
        cases b
        · gi_wp2
          exact ⟨keepsOthers_drewN W _, below_drewN (Below.refl _ _) _, below_drewN hBH.out _, fun k' hk' => by
            rcases List.mem_append.1 hk' with g | g
            · exact hnoH.out k' g
            · rw [List.mem_singleton.1 g, hmH.out]
              exact fun h => by have := hbH.out.2 h; cases this⟩
        · gi_wp2
          exact ⟨(keepsOthers_drewN W _).trans (KeepsOthers.setCell _ _ _), ⟨by simp, pre, x, by simp, by rw [hmH.out]; exact hbH.out.1 (by simp), hnoH.out, by rw [hmH.out]; exact Boxed.set _ r2H.out⟩, (below_drewN (hB0.out.trans (hBH.out.mono (by omega))) _).setCell (p := ⟨n₀ + 1 + 1, 0, none⟩) (by show n₀ ≤ n₀ + 1 + 1; omega) _⟩
  case stop =>
    clear hRd
    rintro D c pre W hD hpre ⟨⟨rfl, q, x, rfl, h1, h2, h3⟩, h5⟩ hK
    have hin : ∀ k ∈ q ++ [x], k ≤ s.size := fun k hk => lens_le (hpre.subset hk)
    have hcp : Hid (CutP (MatB p) s en lo (lef s en x)) := Lib.hid (cutP_some hpre (by rw [← Nat.min_eq_left (hin x (by simp))]; exact h1) (fun k hk => by rw [← Nat.min_eq_left (hin k (by simp [hk]))]; exact h2 k hk))
    rw [Nat.min_eq_left (hin x (by simp))] at h3
    have z2 : Boxed (W.putObj D (.deferred none)) (n₀ + 1 + 1) 9 (.string (lef s en x)) := (World.putObj_heap_other (by omega)).trans h3
    have q2 := z2.cell
    have hKH := Lib.hid hK
    have hbe := Lib.hid (h5.trans (belowK_b (w := w) hnw W D _ (.deferred none) (by omega) hK rfl rfl))
    clear hin hpre h1 h2 h3 h5 hK z2
    gi_wp2
    refine ⟨by simp, .inl ⟨_, _, rfl, run_takeDeferred hKH.out, ?_⟩⟩
    refine ⟨.string (lef s en x), ?_, ?_⟩
    · simp [results, Try.results20, go_sem, q2]
    · exact ⟨by rw [hn₀H.out]; exact hbe.out, _, rfl, hcp.out⟩
  case done =>
    clear hRd
    rintro D xs W hD rfl ⟨hB, hno⟩ hK
    have hcp : Hid (CutP (MatB p) s en lo s) := Lib.hid (cutP_none (fun k hk => by rw [← Nat.min_eq_left (lens_le hk)]; exact hno k hk))
    have q0 := (show Boxed W n₀ 9 (.string s) from (hB.block _ (by omega)).trans g0.out).cell
    have r2 : Boxed W (n₀ + 1 + 1) 9 (.string ⟨#[]⟩) := (hB.block _ (by omega)).trans g2.out
    have q2 := r2.cell
    have f2 := r2.frozen
    have r2H := Lib.hid r2
    have hKH := Lib.hid hK
    have hBH := Lib.hid (hB0.out.trans (hB.mono (by omega)))
    clear hB hno r2 hK
    gi_wp2
    have k5 := (KeepsOthers.setCell W ⟨n₀ + 1 + 1, 0, none⟩ (.string s)).same D _ hKH.out rfl
    have z2 : Boxed ((W.setCell ⟨n₀ + 1 + 1, 0, none⟩ (.string s)).putObj D (.deferred none)) (n₀ + 1 + 1) 9 (.string s) := (World.putObj_heap_other (by omega)).trans (Boxed.set _ r2H.out)
    have q3 := z2.cell
    refine ⟨by simp, .inl ⟨_, _, rfl, run_takeDeferred k5, ?_⟩⟩
    refine ⟨.string s, ?_, ?_⟩
    · simp [results, Try.results20, go_sem, q3]
    · exact ⟨by rw [hn₀H.out]; exact (hBH.out.setCell (p := ⟨n₀ + 1 + 1, 0, none⟩) (by show n₀ ≤ n₀ + 1 + 1; omega) _).trans (belowK_b (w := w) hnw _ D _ _ (by omega) k5 rfl rfl), _, rfl, hcp.out⟩
theorem cut_any (av : Option Addr) (n cv : Nat) (p : List Ch) (s : ByteArray) (en lo : Bool) (w : World) (hn : p.length = n) (hP : ChsAt w.heap.size w av p) (hn2 : n ≤ 1000000) (hs : s.size ≤ 1000000) :
    Calls Try.prog 20 #[.slice av n cv, .string s, .bool en, .bool lo] w (CutR p s en lo w) := callsIn_wide.1 (cut_in av n cv p s en lo w hn hP hn2 hs)
end Go.Proofs.Ytlaidmjlgjpgcaa
