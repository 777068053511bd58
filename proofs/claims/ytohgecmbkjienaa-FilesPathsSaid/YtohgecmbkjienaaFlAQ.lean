/- named; unlink. Condition: the tree lies as stated. -/
import Derived.Test.YtohgecmbkjienaaFlAI
namespace Go.Proofs.Ytohgecmbkjienaa
open Go.RowKit Go.Shelf Go.PlainAid
attribute [local go_sem] Oper.semAt_some
/-- What an entry of a walked way names lives. -/
theorem look_live {f : Fs} (hc : Closed f) {dir : Int} {s : ByteArray} (h : (aheadM f dir s).2.2 = 0) {I : Ino} (hI : node f (aheadM f dir s).1 = some I) (hl : lookM I.ents (aheadM f dir s).2.1 ≠ 0) : (node f (lookM I.ents (aheadM f dir s).2.1 : Nat)).isSome := by
  obtain ⟨D, hD, hd, hm, h1, h2, h3, h4⟩ := ahead_live h
  obtain rfl : I = D := Option.some.inj (hI.symm.trans hD)
  have he : enterM f (aheadM f dir s).1 = 0 := by
    unfold enterM
    rw [hI]
    dsimp only
    rw [if_pos hd, if_pos hm]
  have hs : stepM f (aheadM f dir s).1 (aheadM f dir s).2.1 = (((lookM I.ents (aheadM f dir s).2.1 : Nat) : Int), 0) := by
    unfold stepM
    rw [if_neg (fun h => h he), hI]
    dsimp only
    rw [if_neg h2, if_neg h3, if_neg (by omega), if_neg hl]
  have h9 := hc.2 (aheadM f dir s).1 (aheadM f dir s).2.1 (by rw [hI]; rfl) (by rw [hs])
  rw [hs] at h9
  exact h9
section
variable {w : World} {B : Nat → Nat → Prop} {p : Nat} {f : Fs} {sv : Value} {ps : List (Option Nat)}
/-- The pointer that named answers. -/
def PtrOf (ps : List (Option Nat)) (r : Int × ByteArray × Nat × Nat) (v : Value) : Prop := (r.2.2.2 = 0 → ∃ i q : Nat, r.2.2.1 = i + 1 ∧ ps[i]? = some (some q) ∧ v = .pointer (some ⟨q, 0, none⟩)) ∧ (r.2.2.2 ≠ 0 → v = .pointer none)
set_option maxHeartbeats 1000000 in
theorem named_any (h : FsAt w B p f sv ps) (hf : FineF f) (hcl : Closed f) (dir : Int) (s : ByteArray) (hs : s.size ≤ maxLen) :
    Calls Try.prog 54 #[.pointer (some ⟨p, 0, none⟩), .int .i64 dir, .string s] w fun e w' => (∃ v, e = .returned (.tuple #[.int .i64 (namedM f dir s).1, .string (namedM f dir s).2.1, v, .int .i64 (namedM f dir s).2.2.2]) ∧ PtrOf ps (namedM f dir s) v) ∧ Below w.heap.size w w' := by
  have hlen : f.length ≤ 100000 := by have := hf.1; omega
  have hdi := Lib.hid (isDir_fs h dir hlen)
  cases hd : isDir f dir with
  | false =>
    have hM : namedM f dir s = (0, ⟨#[]⟩, 0, 9) := by unfold namedM; rw [hd]; rfl
    rw [hM]
    rw [hd] at hdi
    clear h hf hcl hd hM
    go_enter Try.func54, Try.ntmps54
    go_wp2_with (go_at_call 40; refine hdi.out.mono ?_; rintro e w' ⟨rfl, rfl⟩)
    (try simp only [Exit.inBlock, Exit.then])
    refine bodyPost_ret (results_tmp4 rfl _ _ _) rfl ?_
    exact ⟨⟨_, rfl, fun h => (by cases h), fun _ => rfl⟩, Below.refl _ _⟩
  | true =>
    have hah := Lib.hid (ahead_any h hf hcl dir (isDir_live hd) s hs)
    have hM : namedM f dir s = if (aheadM f dir s).2.2 ≠ 0 then (0, ⟨#[]⟩, 0, (aheadM f dir s).2.2) else match node f (aheadM f dir s).1 with
      | none => (0, ⟨#[]⟩, 0, 2)
      | some I => if lookM I.ents (aheadM f dir s).2.1 = 0 then (0, ⟨#[]⟩, 0, 2) else ((aheadM f dir s).1, (aheadM f dir s).2.1, lookM I.ents (aheadM f dir s).2.1, 0) := by unfold namedM; rw [hd]; rfl
    rw [hd] at hdi
    by_cases h1 : (aheadM f dir s).2.2 = 0
    · rw [if_neg (fun h => h h1)] at hM
      obtain ⟨D, hD, _⟩ := ahead_live h1
      rw [hD] at hM
      dsimp only at hM
      have hll := fun hl => look_live hcl h1 hD hl
      obtain ⟨i, hn, _, hi⟩ := node_some hD
      obtain ⟨x, hx⟩ : ∃ y, (aheadM f dir s).2.1 = y := ⟨_, rfl⟩
      rw [h1, hn, hx] at hah
      rw [hn, hx] at hM
      rw [hx] at hll
      obtain ⟨q, hq, dv, ev, hA⟩ := h.some_ i D hi
      have hnd := Lib.hid (fun (W : World) (hb : Below w.heap.size w W) => node_yes (h.below hb) hq hlen)
      have hlk := Lib.hid (fun (W : World) (hb : Below w.heap.size w W) => lookup_any (hA.below hb) (hf.2 i D hi) x)
      obtain ⟨k, hk⟩ : ∃ k, lookM D.ents x = k := ⟨_, rfl⟩
      rw [hk] at hM hlk hll
      by_cases h2 : k = 0
      · rw [if_pos h2] at hM
        subst h2
        rw [hM]
        clear h hf hcl hd h1 hD hn hi hx hA hq hk hM hll
        go_enter Try.func54, Try.ntmps54
        go_wp2_with (first | (go_at_call 40; refine hdi.out.mono ?_; rintro e w' ⟨rfl, rfl⟩) | (go_at_call 41; refine hah.out.mono ?_; rintro e w1 ⟨rfl, hb1⟩) | (go_at_call 38; refine (hnd.out _ hb1).mono ?_; rintro e w' ⟨rfl, rfl⟩) | (go_at_call 55; refine (hlk.out _ hb1).mono ?_; rintro e w2 ⟨rfl, hb2⟩))
        (try simp only [Exit.inBlock, Exit.then])
        refine bodyPost_ret (results_tmp4 rfl _ _ _) rfl ?_
        exact ⟨⟨_, rfl, fun h => (by cases h), fun _ => rfl⟩, hb1.trans (below_of hb2 hb1.size)⟩
      · rw [if_neg h2] at hM
        have h9 := hll h2
        obtain ⟨J, hJ⟩ := Option.isSome_iff_exists.1 h9
        obtain ⟨j, q2, hj, _, _, hq2, _⟩ := node_where h hJ
        have hkj : k = j + 1 := by omega
        subst hkj
        have hnd2 := Lib.hid (fun (W : World) (hb : Below w.heap.size w W) => node_yes (h.below hb) hq2 hlen)
        have hq2H := Lib.hid hq2
        have e0 : (((j : Int) + 1) == 0) = false := beq_eq_false_iff_ne.2 (by omega)
        rw [hM]
        clear h hf hcl hd h1 hD hn hi hx hA hq hk hM hll h9 hJ hj hq2
        go_enter Try.func54, Try.ntmps54
        go_wp2_with (first | (go_at_call 40; refine hdi.out.mono ?_; rintro e w' ⟨rfl, rfl⟩) | (go_at_call 41; refine hah.out.mono ?_; rintro e w1 ⟨rfl, hb1⟩) | (go_at_call 38; refine (hnd2.out _ (hb1.trans (below_of hb2 hb1.size))).mono ?_; rintro e w' ⟨rfl, rfl⟩) | (go_at_call 38; refine (hnd.out _ hb1).mono ?_; rintro e w' ⟨rfl, rfl⟩) | (go_at_call 55; refine (hlk.out _ hb1).mono ?_; rintro e w2 ⟨rfl, hb2⟩))
        (try simp only [Exit.inBlock, Exit.then])
        refine bodyPost_ret (results_tmp4 rfl _ _ _) rfl ?_
        exact ⟨⟨_, rfl, fun _ => ⟨j, q2, rfl, hq2H.out, rfl⟩, fun h => absurd rfl h⟩, hb1.trans (below_of hb2 hb1.size)⟩
    · rw [if_pos h1] at hM
      obtain ⟨er, her⟩ : ∃ y, (aheadM f dir s).2.2 = y := ⟨_, rfl⟩
      rw [her] at hah h1 hM
      rw [hM]
      have h1' : ¬ (er : Int) = 0 := by omega
      have h1H := Lib.hid h1
      clear h hf hcl hd her hM
      go_enter Try.func54, Try.ntmps54
      go_wp2_with (first | (go_at_call 40; refine hdi.out.mono ?_; rintro e w' ⟨rfl, rfl⟩) | (go_at_call 41; refine hah.out.mono ?_; rintro e w1 ⟨rfl, hb1⟩))
      (try simp only [Exit.inBlock, Exit.then])
      refine bodyPost_ret (results_tmp4 rfl _ _ _) rfl ?_
      exact ⟨⟨_, rfl, fun h => absurd h h1H.out, fun _ => rfl⟩, hb1⟩
end
end Go.Proofs.Ytohgecmbkjienaa
