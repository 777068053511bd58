/- Unlink, Rmdir. Condition: the tree lies as stated. -/
import Derived.Test.YtohgecmbkjienaaFlAR
namespace Go.Proofs.Ytohgecmbkjienaa
open Go.RowKit Go.Shelf Go.PlainAid
attribute [local go_sem] Oper.semAt_some
def UnlinkM (f : Fs) (dir : Int) (s : ByteArray) : Nat × Fs :=
  if (namedM f dir s).2.2.2 ≠ 0 then ((namedM f dir s).2.2.2, f) else match node f (namedM f dir s).2.2.1, node f (namedM f dir s).1 with
  | some J, some D => if (slashed s && !J.isDir) = true then (20, f) else if J.isDir = true then (21, f) else if D.may 2 = true then (0, unlinkM f (namedM f dir s).1.toNat (namedM f dir s).2.1) else (13, f)
  | _, _ => (2, f)
def RmdirM (f : Fs) (dir : Int) (s : ByteArray) : Nat × Fs :=
  if (namedM f dir s).2.2.2 ≠ 0 then ((namedM f dir s).2.2.2, f) else match node f (namedM f dir s).2.2.1, node f (namedM f dir s).1 with
  | some J, some D => if J.isDir = true then (if 0 < J.ents.length then (39, f) else if D.may 2 = true then (0, unlinkM f (namedM f dir s).1.toNat (namedM f dir s).2.1) else (13, f)) else (20, f)
  | _, _ => (2, f)
/-- What an entry names has a link. -/
def Linked (f : Fs) : Prop := ∀ (i : Nat) D x (j : Nat) J, f[i]? = some (some D) → lookM D.ents x = j + 1 → f[j]? = some (some J) → 1 ≤ J.links
theorem named_ok {f : Fs} (hc : Closed f) {dir : Int} {s : ByteArray} (h : (namedM f dir s).2.2.2 = 0) : ∃ (i : Nat) (D : Ino) (j : Nat) (J : Ino) (x : ByteArray), namedM f dir s = ((i : Int) + 1, x, j + 1, 0) ∧ f[i]? = some (some D) ∧ D.isDir = true ∧ f[j]? = some (some J) ∧ lookM D.ents x = j + 1 := by
  unfold namedM at h ⊢
  cases hd : isDir f dir with
  | false => rw [hd] at h; cases h
  | true =>
    rw [hd] at h
    rw [if_neg (by decide)] at h ⊢
    by_cases h1 : (aheadM f dir s).2.2 = 0
    · rw [if_neg (fun h => h h1)] at h ⊢
      obtain ⟨D, hD, hdd, _⟩ := ahead_live h1
      rw [hD] at h ⊢
      dsimp only at h ⊢
      by_cases h2 : lookM D.ents (aheadM f dir s).2.1 = 0
      · rw [if_pos h2] at h; cases h
      · rw [if_neg h2]
        obtain ⟨J, hJ⟩ := Option.isSome_iff_exists.1 (look_live hc h1 hD h2)
        obtain ⟨i, hn, _, hi⟩ := node_some hD
        obtain ⟨j, hk, _, hj⟩ := node_some hJ
        have hk' : lookM D.ents (aheadM f dir s).2.1 = j + 1 := by omega
        exact ⟨i, D, j, J, (aheadM f dir s).2.1, by rw [hk', hn], hi, hdd, hj, hk'⟩
    · rw [if_pos h1] at h
      exact absurd h h1
section
variable {w : World} {B : Nat → Nat → Prop} {p : Nat} {f : Fs} {sv : Value} {ps : List (Option Nat)}
theorem named_err (h : FsAt w B p f sv ps) (hf : FineF f) (hcl : Closed f) (dir : Int) (s : ByteArray) (hs : s.size ≤ maxLen) (h0 : (namedM f dir s).2.2.2 ≠ 0) :
    Calls Try.prog 54 #[.pointer (some ⟨p, 0, none⟩), .int .i64 dir, .string s] w fun e w' => e = .returned (.tuple #[.int .i64 (namedM f dir s).1, .string (namedM f dir s).2.1, .pointer none, .int .i64 (namedM f dir s).2.2.2]) ∧ Below w.heap.size w w' :=
  (named_any h hf hcl dir s hs).mono fun e w' ⟨⟨v, h1, h2⟩, h3⟩ => ⟨by rw [h1, h2.2 h0], h3⟩
theorem named_yes (h : FsAt w B p f sv ps) (hf : FineF f) (hcl : Closed f) (dir : Int) (s : ByteArray) (hs : s.size ≤ maxLen) {i j q : Nat} {x : ByteArray} (h0 : namedM f dir s = ((i : Int) + 1, x, j + 1, 0)) (hq : ps[j]? = some (some q)) :
    Calls Try.prog 54 #[.pointer (some ⟨p, 0, none⟩), .int .i64 dir, .string s] w fun e w' => e = .returned (.tuple #[.int .i64 ((i : Int) + 1), .string x, .pointer (some ⟨q, 0, none⟩), .int .i64 0]) ∧ Below w.heap.size w w' :=
  (named_any h hf hcl dir s hs).mono fun e w' ⟨⟨v, h1, h2⟩, h3⟩ => by
    rw [h0] at h1 h2
    obtain ⟨j', q', e1, e2, e3⟩ := h2.1 rfl
    have e4 : j' = j := by simpa using e1.symm
    subst e4
    rw [hq] at e2
    cases e2
    exact ⟨by rw [h1, e3]; rfl, h3⟩
set_option maxHeartbeats 1000000 in
theorem unlinkF_any (h : FsAt w B p f sv ps) (hf : FineF f) (hcl : Closed f) (hLk : Linked f) (dir : Int) (s : ByteArray) (hs : s.size ≤ maxLen) : Calls Try.prog 29 #[.pointer (some ⟨p, 0, none⟩), .int .i64 dir, .string s] w fun e w' => e = .returned (.int .i64 (UnlinkM f dir s).1) ∧ FsP (All B) w w' p (UnlinkM f dir s).2 := by
  have hlen : f.length ≤ 100000 := by have := hf.1; omega
  have hS := Lib.hid (fun (w1 : World) (hb : Below w.heap.size w w1) => FsP.of (show FsIs w B p f from ⟨sv, ps, h⟩) hb)
  by_cases h0 : (namedM f dir s).2.2.2 = 0
  · obtain ⟨i, D, j, J, x, he, hi, hdd, hj, hx⟩ := named_ok hcl h0
    obtain ⟨q, hq, dv, ev, hA⟩ := h.some_ i D hi
    obtain ⟨q2, hq2, dv2, ev2, hA2⟩ := h.some_ j J hj
    have hnm := Lib.hid (named_yes h hf hcl dir s hs he hq2)
    have hdj := Lib.hid (fun (W : World) (hb : Below w.heap.size w W) => isDir_any (hA2.below hb))
    have hnd := Lib.hid (fun (W : World) (hb : Below w.heap.size w W) => node_yes (h.below hb) hq hlen)
    have hmy := Lib.hid (fun (W : World) (hb : Below w.heap.size w W) => may_any (hA.below hb) 2)
    have hul := Lib.hid (fun (W : World) (hb : Below w.heap.size w W) => (unlink_any (h.below hb) hf hi hj x hx (hLk i D x j J hi hx hj)).mono fun e w' h9 => And.intro h9.1 (FsP.after hb h9.2))
    have hM : UnlinkM f dir s = if (slashed s && !J.isDir) = true then (20, f) else if J.isDir = true then (21, f) else if D.may 2 = true then (0, unlinkM f (i + 1) x) else (13, f) := by
      unfold UnlinkM
      rw [he]
      dsimp only
      rw [if_neg (fun h => h rfl), show ((j + 1 : Nat) : Int) = (j : Int) + 1 by omega, node_at hj, node_at hi, show ((i : Int) + 1).toNat = i + 1 by omega]
    rw [hM]
    clear hM h hf hcl hLk h0 he hi hdd hj hx hq hA hq2 hA2
    cases hsl : slashed s with
    | true =>
      cases hd : J.isDir with
      | true =>
        rw [hd] at hdj
        rw [if_neg (by decide), if_pos rfl]
        clear hd
        go_enter Try.func29, Try.ntmps29
        go_wp2_with (first | (go_at_call 54; refine hnm.out.mono ?_; rintro e w1 ⟨rfl, hb1⟩) | (go_at_call 42; refine (slashed_any s _ hs).mono ?_; rintro e w' ⟨rfl, rfl⟩; rw [hsl]) | (go_at_call 49; refine (hdj.out _ hb1).mono ?_; rintro e w' ⟨rfl, rfl⟩))
        go_ret
        exact ⟨rfl, hS.out _ hb1⟩
      | false =>
        rw [hd] at hdj
        rw [if_pos (by decide)]
        clear hd
        go_enter Try.func29, Try.ntmps29
        go_wp2_with (first | (go_at_call 54; refine hnm.out.mono ?_; rintro e w1 ⟨rfl, hb1⟩) | (go_at_call 42; refine (slashed_any s _ hs).mono ?_; rintro e w' ⟨rfl, rfl⟩; rw [hsl]) | (go_at_call 49; refine (hdj.out _ hb1).mono ?_; rintro e w' ⟨rfl, rfl⟩))
        go_ret
        exact ⟨rfl, hS.out _ hb1⟩
    | false =>
      cases hd : J.isDir with
      | true =>
        rw [hd] at hdj
        rw [if_neg (by decide), if_pos rfl]
        clear hd
        go_enter Try.func29, Try.ntmps29
        go_wp2_with (first | (go_at_call 54; refine hnm.out.mono ?_; rintro e w1 ⟨rfl, hb1⟩) | (go_at_call 42; refine (slashed_any s _ hs).mono ?_; rintro e w' ⟨rfl, rfl⟩; rw [hsl]) | (go_at_call 49; refine (hdj.out _ hb1).mono ?_; rintro e w' ⟨rfl, rfl⟩))
        go_ret
        exact ⟨rfl, hS.out _ hb1⟩
      | false =>
        rw [hd] at hdj
        rw [if_neg (by decide), if_neg (by decide)]
        clear hd
        cases hm : D.may 2 with
        | true =>
          rw [hm] at hmy
          rw [if_pos rfl]
          clear hm
          go_enter Try.func29, Try.ntmps29
          go_wp2_with (first | (go_at_call 54; refine hnm.out.mono ?_; rintro e w1 ⟨rfl, hb1⟩) | (go_at_call 42; refine (slashed_any s _ hs).mono ?_; rintro e w' ⟨rfl, rfl⟩; rw [hsl]) | (go_at_call 49; refine (hdj.out _ hb1).mono ?_; rintro e w' ⟨rfl, rfl⟩) | (go_at_call 38; refine (hnd.out _ hb1).mono ?_; rintro e w' ⟨rfl, rfl⟩) | (go_at_call 48; refine (hmy.out _ hb1).mono ?_; rintro e w' ⟨rfl, rfl⟩) | (go_at_call 57; refine (hul.out _ hb1).mono ?_; rintro e w2 ⟨rfl, hP2⟩))
          go_ret
          exact ⟨rfl, hP2⟩
        | false =>
          rw [hm] at hmy
          rw [if_neg (by decide)]
          clear hm
          go_enter Try.func29, Try.ntmps29
          go_wp2_with (first | (go_at_call 54; refine hnm.out.mono ?_; rintro e w1 ⟨rfl, hb1⟩) | (go_at_call 42; refine (slashed_any s _ hs).mono ?_; rintro e w' ⟨rfl, rfl⟩; rw [hsl]) | (go_at_call 49; refine (hdj.out _ hb1).mono ?_; rintro e w' ⟨rfl, rfl⟩) | (go_at_call 38; refine (hnd.out _ hb1).mono ?_; rintro e w' ⟨rfl, rfl⟩) | (go_at_call 48; refine (hmy.out _ hb1).mono ?_; rintro e w' ⟨rfl, rfl⟩))
          go_ret
          exact ⟨rfl, hS.out _ hb1⟩
  · have hnm := Lib.hid (named_err h hf hcl dir s hs h0)
    have hM : UnlinkM f dir s = ((namedM f dir s).2.2.2, f) := by unfold UnlinkM; rw [if_pos h0]
    rw [hM]
    obtain ⟨er, her⟩ : ∃ y, (namedM f dir s).2.2.2 = y := ⟨_, rfl⟩
    rw [her] at hnm h0 ⊢
    have h1' : ¬ (er : Int) = 0 := by omega
    clear h hf hcl hLk hM her
    go_enter Try.func29, Try.ntmps29
    go_wp2_with (first | (go_at_call 54; refine hnm.out.mono ?_; rintro e w1 ⟨rfl, hb1⟩))
    go_ret
    exact ⟨rfl, hS.out _ hb1⟩
set_option maxHeartbeats 1000000 in
theorem rmdir_any (h : FsAt w B p f sv ps) (hf : FineF f) (hcl : Closed f) (hLk : Linked f) (dir : Int) (s : ByteArray) (hs : s.size ≤ maxLen) : Calls Try.prog 34 #[.pointer (some ⟨p, 0, none⟩), .int .i64 dir, .string s] w fun e w' => e = .returned (.int .i64 (RmdirM f dir s).1) ∧ FsP (All B) w w' p (RmdirM f dir s).2 := by
  have hlen : f.length ≤ 100000 := by have := hf.1; omega
  have hS := Lib.hid (fun (w1 : World) (hb : Below w.heap.size w w1) => FsP.of (show FsIs w B p f from ⟨sv, ps, h⟩) hb)
  by_cases h0 : (namedM f dir s).2.2.2 = 0
  · obtain ⟨i, D, j, J, x, he, hi, hdd, hj, hx⟩ := named_ok hcl h0
    obtain ⟨q, hq, dv, ev, hA⟩ := h.some_ i D hi
    obtain ⟨q2, hq2, dv2, ev2, hA2⟩ := h.some_ j J hj
    have hnm := Lib.hid (named_yes h hf hcl dir s hs he hq2)
    have hdj := Lib.hid (fun (W : World) (hb : Below w.heap.size w W) => isDir_any (hA2.below hb))
    have hnd := Lib.hid (fun (W : World) (hb : Below w.heap.size w W) => node_yes (h.below hb) hq hlen)
    have hmy := Lib.hid (fun (W : World) (hb : Below w.heap.size w W) => may_any (hA.below hb) 2)
    have hul := Lib.hid (fun (W : World) (hb : Below w.heap.size w W) => (unlink_any (h.below hb) hf hi hj x hx (hLk i D x j J hi hx hj)).mono fun e w' h9 => And.intro h9.1 (FsP.after hb h9.2))
    obtain ⟨a5, c5, rfl⟩ := ownsRow_slice hA2.ent
    obtain ⟨m, hm5⟩ : ∃ m, J.ents.length = m := ⟨_, rfl⟩
    have k5 := Lib.hid (fun (W : World) (hb : Below w.heap.size w W) => show W.cell? ⟨q2, 5, none⟩ = some (.slice a5 m c5) by rw [← hm5]; exact (hA2.below hb).blk.cell 5)
    have hM : RmdirM f dir s = if J.isDir = true then (if 0 < J.ents.length then (39, f) else if D.may 2 = true then (0, unlinkM f (i + 1) x) else (13, f)) else (20, f) := by
      unfold RmdirM
      rw [he]
      dsimp only
      rw [if_neg (fun h => h rfl), show ((j + 1 : Nat) : Int) = (j : Int) + 1 by omega, node_at hj, node_at hi, show ((i : Int) + 1).toNat = i + 1 by omega]
    rw [hM, hm5]
    clear hM h hf hcl hLk h0 he hi hdd hj hx hq hA hq2 hA2 hm5
    cases hd : J.isDir with
    | true =>
      rw [hd] at hdj
      rw [if_pos rfl]
      clear hd
      by_cases h5 : 0 < m
      · rw [if_pos h5]
        go_enter Try.func34, Try.ntmps34
        go_wp2_with (first | (go_at_call 54; refine hnm.out.mono ?_; rintro e w1 ⟨rfl, hb1⟩; have c5' := k5.out _ hb1) | (go_at_call 49; refine (hdj.out _ hb1).mono ?_; rintro e w' ⟨rfl, rfl⟩))
        go_ret
        exact ⟨rfl, hS.out _ hb1⟩
      · rw [if_neg h5]
        cases hm : D.may 2 with
        | true =>
          rw [hm] at hmy
          rw [if_pos rfl]
          clear hm
          go_enter Try.func34, Try.ntmps34
          go_wp2_with (first | (go_at_call 54; refine hnm.out.mono ?_; rintro e w1 ⟨rfl, hb1⟩; have c5' := k5.out _ hb1) | (go_at_call 49; refine (hdj.out _ hb1).mono ?_; rintro e w' ⟨rfl, rfl⟩) | (go_at_call 38; refine (hnd.out _ hb1).mono ?_; rintro e w' ⟨rfl, rfl⟩) | (go_at_call 48; refine (hmy.out _ hb1).mono ?_; rintro e w' ⟨rfl, rfl⟩) | (go_at_call 57; refine (hul.out _ hb1).mono ?_; rintro e w2 ⟨rfl, hP2⟩))
          go_ret
          exact ⟨rfl, hP2⟩
        | false =>
          rw [hm] at hmy
          rw [if_neg (by decide)]
          clear hm
          go_enter Try.func34, Try.ntmps34
          go_wp2_with (first | (go_at_call 54; refine hnm.out.mono ?_; rintro e w1 ⟨rfl, hb1⟩; have c5' := k5.out _ hb1) | (go_at_call 49; refine (hdj.out _ hb1).mono ?_; rintro e w' ⟨rfl, rfl⟩) | (go_at_call 38; refine (hnd.out _ hb1).mono ?_; rintro e w' ⟨rfl, rfl⟩) | (go_at_call 48; refine (hmy.out _ hb1).mono ?_; rintro e w' ⟨rfl, rfl⟩))
          go_ret
          exact ⟨rfl, hS.out _ hb1⟩
    | false =>
      rw [hd] at hdj
      rw [if_neg (by decide)]
      clear hd
      go_enter Try.func34, Try.ntmps34
      go_wp2_with (first | (go_at_call 54; refine hnm.out.mono ?_; rintro e w1 ⟨rfl, hb1⟩) | (go_at_call 49; refine (hdj.out _ hb1).mono ?_; rintro e w' ⟨rfl, rfl⟩))
      go_ret
      exact ⟨rfl, hS.out _ hb1⟩
  · have hnm := Lib.hid (named_err h hf hcl dir s hs h0)
    have hM : RmdirM f dir s = ((namedM f dir s).2.2.2, f) := by unfold RmdirM; rw [if_pos h0]
    rw [hM]
    obtain ⟨er, her⟩ : ∃ y, (namedM f dir s).2.2.2 = y := ⟨_, rfl⟩
    rw [her] at hnm h0 ⊢
    have h1' : ¬ (er : Int) = 0 := by omega
    clear h hf hcl hLk hM her
    go_enter Try.func34, Try.ntmps34
    go_wp2_with (first | (go_at_call 54; refine hnm.out.mono ?_; rintro e w1 ⟨rfl, hb1⟩))
    go_ret
    exact ⟨rfl, hS.out _ hb1⟩
end
end Go.Proofs.Ytohgecmbkjienaa
