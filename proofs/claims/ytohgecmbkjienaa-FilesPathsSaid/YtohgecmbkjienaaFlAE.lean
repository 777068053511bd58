/- Create, Mkdir, Walk. Condition: the tree lies as stated. -/
import Derived.Test.YtohgecmbkjienaaFlAD
namespace Go.Proofs.Ytohgecmbkjienaa
open Go.RowKit Go.Shelf Go.PlainAid
attribute [local go_sem] Oper.semAt_some
def CreateM (f : Fs) (dir : Int) (s : ByteArray) (mode : Int) : Nat × Nat × Fs :=
  if !isDir f dir then (0, 9, f) else if (aheadM f dir s).2.2 ≠ 0 then (0, (aheadM f dir s).2.2, f)
  else if slashed s then (0, 21, f) else makeM f (aheadM f dir s).1.toNat (aheadM f dir s).2.1 ⟨1, modeM mode, 0, 0, [], [], 0⟩
def MkdirM (f : Fs) (dir : Int) (s : ByteArray) (mode : Int) : Nat × Nat × Fs :=
  if !isDir f dir then (0, 9, f) else if (aheadM f dir s).2.2 ≠ 0 then (0, (aheadM f dir s).2.2, f)
  else makeM f (aheadM f dir s).1.toNat (aheadM f dir s).2.1 ⟨2, modeM mode, 0, 0, [], [], (aheadM f dir s).1.toNat⟩
theorem isDir_live {f : Fs} {n : Int} (h : isDir f n = true) : (node f n).isSome := by
  unfold isDir at h
  cases hn : node f n with
  | none => rw [hn] at h; cases h
  | some I => rfl
theorem ahead_live {f : Fs} {dir : Int} {s : ByteArray} (h : (aheadM f dir s).2.2 = 0) : ∃ D, node f (aheadM f dir s).1 = some D ∧ D.isDir = true ∧ D.may 1 = true ∧ (aheadM f dir s).2.1.size ≠ 0 ∧ (aheadM f dir s).2.1 ≠ dotT ∧ (aheadM f dir s).2.1 ≠ dotsT ∧ (aheadM f dir s).2.1.size ≤ 32 := by
  unfold aheadM at h ⊢
  split at h
  · contradiction
  · rename_i h0
    rw [if_neg h0]
    obtain ⟨r, hr⟩ : ∃ r, aheadsM f (beginM dir s).1 ⟨#[]⟩ (pieces s) = r := ⟨_, rfl⟩
    rw [hr] at h ⊢
    unfold lastM at h ⊢
    split at h
    · contradiction
    · rename_i h1
      rw [if_neg h1]
      split at h
      · contradiction
      · rename_i h2
        rw [if_neg h2]
        split at h
        · cases h
        · rename_i h3
          rw [if_neg h3]
          split at h
          · cases h
          · rename_i h4
            rw [if_neg h4]
            have h5 : enterM f r.1 = 0 := by omega
            unfold enterM at h5
            cases hn : node f r.1 with
            | none => rw [hn] at h5; cases h5
            | some I =>
              rw [hn] at h5
              dsimp only at h5
              cases hd : I.isDir with
              | false => rw [hd] at h5; cases h5
              | true =>
                cases hm : I.may 1 with
                | false => rw [hd, hm] at h5; cases h5
                | true => exact ⟨I, rfl, hd, hm, fun e => h3 (.inl e), fun e => h3 (.inr (.inl e)), fun e => h3 (.inr (.inr e)), by show r.2.1.size ≤ 32; omega⟩
section
variable {w : World} {B : Nat → Nat → Prop} {p : Nat} {f : Fs} {sv : Value} {ps : List (Option Nat)}
set_option maxHeartbeats 1000000 in
theorem create_any (h : FsAt w B p f sv ps) (hf : FineF f) (hlen : f.length ≤ 9000) (hcl : Closed f) (dir : Int) (s : ByteArray) (mode : Int) (hs : s.size ≤ maxLen) :
    Calls Try.prog 17 #[.pointer (some ⟨p, 0, none⟩), .int .i64 dir, .string s, .int .i64 mode] w fun e w' => e = .returned (.tuple #[.int .i64 (CreateM f dir s mode).1, .int .i64 (CreateM f dir s mode).2.1]) ∧ FsP (All B) w w' p (CreateM f dir s mode).2.2 := by
  have hdi := Lib.hid (isDir_fs h dir (by omega))
  have hP := Lib.hid h.same
  cases hd : isDir f dir with
  | false =>
    have hM : Hid (CreateM f dir s mode = (0, 9, f)) := Lib.hid (by unfold CreateM; rw [hd]; rfl)
    rw [hM.out]
    rw [hd] at hdi
    clear h hf hcl hd hM
    go_enter Try.func17, Try.ntmps17
    go_wp2_with (go_at_call 40; refine hdi.out.mono ?_; rintro e w' ⟨rfl, rfl⟩)
    go_ret2
    exact ⟨rfl, hP.out⟩
  | true =>
    have hM : CreateM f dir s mode = if (aheadM f dir s).2.2 ≠ 0 then (0, (aheadM f dir s).2.2, f) else if slashed s then (0, 21, f) else makeM f (aheadM f dir s).1.toNat (aheadM f dir s).2.1 ⟨1, modeM mode, 0, 0, [], [], 0⟩ := by unfold CreateM; rw [hd]; rfl
    rw [hM]
    clear hM
    have hah := Lib.hid (ahead_any h hf hcl dir (isDir_live hd) s hs)
    have hS := Lib.hid (fun (w1 : World) (hb : Below w.heap.size w w1) => FsP.of (show FsIs w B p f from ⟨sv, ps, h⟩) hb)
    rw [hd] at hdi
    by_cases h1 : (aheadM f dir s).2.2 = 0
    · rw [if_neg (fun h => h h1)]
      obtain ⟨D, hD, _⟩ := ahead_live h1
      obtain ⟨i, hn, _, hi⟩ := node_some hD
      obtain ⟨x, hx⟩ : ∃ y, (aheadM f dir s).2.1 = y := ⟨_, rfl⟩
      rw [h1, hn, hx] at hah
      rw [hn, hx, show ((i : Int) + 1).toNat = i + 1 by omega]
      cases hsl : slashed s with
      | true =>
        rw [if_pos rfl]
        clear h hf hcl hd h1 hD hn hi hx
        go_enter Try.func17, Try.ntmps17
        go_wp2_with (first | (go_at_call 40; refine hdi.out.mono ?_; rintro e w' ⟨rfl, rfl⟩) | (go_at_call 41; refine hah.out.mono ?_; rintro e w1 ⟨rfl, hb1⟩) | (go_at_call 42; refine (slashed_any s _ hs).mono ?_; rintro e w' ⟨rfl, rfl⟩; rw [hsl]))
        go_ret2
        exact ⟨rfl, hS.out _ hb1⟩
      | false =>
        rw [if_neg (by decide)]
        have hmk := Lib.hid (fun (W : World) (hb : Below w.heap.size w W) => (make_any (h.below hb) hf hi x ⟨1, modeM mode, 0, 0, [], [], 0⟩ rfl rfl hlen).mono fun e w' h9 => And.intro h9.1 (FsP.after hb h9.2))
        clear h hf hcl hd h1 hD hn hi hx
        go_enter Try.func17, Try.ntmps17
        go_wp2_with (first | (go_at_call 40; refine hdi.out.mono ?_; rintro e w' ⟨rfl, rfl⟩) | (go_at_call 41; refine hah.out.mono ?_; rintro e w1 ⟨rfl, hb1⟩) | (go_at_call 42; refine (slashed_any s _ hs).mono ?_; rintro e w' ⟨rfl, rfl⟩; rw [hsl]) | (go_at_call 43; refine (hmk.out _ hb1).mono ?_; rintro e w2 ⟨rfl, hP2⟩))
        go_ret2
        exact ⟨rfl, hP2⟩
    · rw [if_pos h1]
      obtain ⟨er, her⟩ : ∃ y, (aheadM f dir s).2.2 = y := ⟨_, rfl⟩
      rw [her] at hah h1 ⊢
      have h1' : ¬ (er : Int) = 0 := by omega
      clear h hf hcl hd her
      go_enter Try.func17, Try.ntmps17
      go_wp2_with (first | (go_at_call 40; refine hdi.out.mono ?_; rintro e w' ⟨rfl, rfl⟩) | (go_at_call 41; refine hah.out.mono ?_; rintro e w1 ⟨rfl, hb1⟩))
      go_ret2
      exact ⟨rfl, hS.out _ hb1⟩
theorem create_nil (dir : Int) (s : ByteArray) (mode : Int) (w : World) : Calls Try.prog 17 #[.pointer none, .int .i64 dir, .string s, .int .i64 mode] w fun e w' => e = .returned (.tuple #[.int .i64 0, .int .i64 9]) ∧ w' = w := by
  go_enter Try.func17, Try.ntmps17
  go_wp2_with (go_at_call 40; refine (isDir_nil _ _).mono ?_; rintro e w' ⟨rfl, rfl⟩)
  go_ret2
  exact ⟨rfl, rfl⟩
set_option maxHeartbeats 1000000 in
theorem mkdir_any (h : FsAt w B p f sv ps) (hf : FineF f) (hlen : f.length ≤ 9000) (hcl : Closed f) (dir : Int) (s : ByteArray) (mode : Int) (hs : s.size ≤ maxLen) :
    Calls Try.prog 31 #[.pointer (some ⟨p, 0, none⟩), .int .i64 dir, .string s, .int .i64 mode] w fun e w' => e = .returned (.int .i64 (MkdirM f dir s mode).2.1) ∧ FsP (All B) w w' p (MkdirM f dir s mode).2.2 := by
  have hdi := Lib.hid (isDir_fs h dir (by omega))
  have hP := Lib.hid h.same
  cases hd : isDir f dir with
  | false =>
    have hM : Hid (MkdirM f dir s mode = (0, 9, f)) := Lib.hid (by unfold MkdirM; rw [hd]; rfl)
    rw [hM.out]
    rw [hd] at hdi
    clear h hf hcl hd hM
    go_enter Try.func31, Try.ntmps31
    go_wp2_with (go_at_call 40; refine hdi.out.mono ?_; rintro e w' ⟨rfl, rfl⟩)
    go_ret
    exact ⟨rfl, hP.out⟩
  | true =>
    have hM : MkdirM f dir s mode = if (aheadM f dir s).2.2 ≠ 0 then (0, (aheadM f dir s).2.2, f) else makeM f (aheadM f dir s).1.toNat (aheadM f dir s).2.1 ⟨2, modeM mode, 0, 0, [], [], (aheadM f dir s).1.toNat⟩ := by unfold MkdirM; rw [hd]; rfl
    rw [hM]
    clear hM
    have hah := Lib.hid (ahead_any h hf hcl dir (isDir_live hd) s hs)
    have hS := Lib.hid (fun (w1 : World) (hb : Below w.heap.size w w1) => FsP.of (show FsIs w B p f from ⟨sv, ps, h⟩) hb)
    rw [hd] at hdi
    by_cases h1 : (aheadM f dir s).2.2 = 0
    · rw [if_neg (fun h => h h1)]
      obtain ⟨D, hD, _⟩ := ahead_live h1
      obtain ⟨i, hn, _, hi⟩ := node_some hD
      obtain ⟨x, hx⟩ : ∃ y, (aheadM f dir s).2.1 = y := ⟨_, rfl⟩
      rw [h1, hn, hx] at hah
      rw [hn, hx, show ((i : Int) + 1).toNat = i + 1 by omega]
      have hmk := Lib.hid (fun (W : World) (hb : Below w.heap.size w W) => (make_any (h.below hb) hf hi x ⟨2, modeM mode, 0, 0, [], [], i + 1⟩ rfl rfl hlen).mono fun e w' h9 => And.intro h9.1 (FsP.after hb h9.2))
      clear h hf hcl hd h1 hD hn hi hx
      go_enter Try.func31, Try.ntmps31
      go_wp2_with (first | (go_at_call 40; refine hdi.out.mono ?_; rintro e w' ⟨rfl, rfl⟩) | (go_at_call 41; refine hah.out.mono ?_; rintro e w1 ⟨rfl, hb1⟩) | (go_at_call 43; refine (hmk.out _ hb1).mono ?_; rintro e w2 ⟨rfl, hP2⟩))
      go_ret
      exact ⟨rfl, hP2⟩
    · rw [if_pos h1]
      obtain ⟨er, her⟩ : ∃ y, (aheadM f dir s).2.2 = y := ⟨_, rfl⟩
      rw [her] at hah h1 ⊢
      have h1' : ¬ (er : Int) = 0 := by omega
      clear h hf hcl hd her
      go_enter Try.func31, Try.ntmps31
      go_wp2_with (first | (go_at_call 40; refine hdi.out.mono ?_; rintro e w' ⟨rfl, rfl⟩) | (go_at_call 41; refine hah.out.mono ?_; rintro e w1 ⟨rfl, hb1⟩))
      go_ret
      exact ⟨rfl, hS.out _ hb1⟩
theorem mkdir_nil (dir : Int) (s : ByteArray) (mode : Int) (w : World) : Calls Try.prog 31 #[.pointer none, .int .i64 dir, .string s, .int .i64 mode] w fun e w' => e = .returned (.int .i64 9) ∧ w' = w := by
  go_enter Try.func31, Try.ntmps31
  go_wp2_with (go_at_call 40; refine (isDir_nil _ _).mono ?_; rintro e w' ⟨rfl, rfl⟩)
  go_ret
  exact ⟨rfl, rfl⟩
theorem Walk_any (h : FsAt w B p f sv ps) (hf : FineF f) (hcl : Closed f) (dir : Int) (s : ByteArray) (hs : s.size ≤ maxLen) :
    Calls Try.prog 24 #[.pointer (some ⟨p, 0, none⟩), .int .i64 dir, .string s] w fun e w' => e = .returned (.tuple #[.int .i64 (WalkM f dir s).1, .int .i64 (WalkM f dir s).2]) ∧ Below w.heap.size w w' := by
  have hdi := Lib.hid (isDir_fs h dir (by have := hf.1; omega))
  unfold WalkM
  cases hd : isDir f dir with
  | false =>
    rw [hd] at hdi
    rw [if_neg (by decide)]
    clear h hf hcl hd
    go_enter Try.func24, Try.ntmps24
    go_wp2_with (go_at_call 40; refine hdi.out.mono ?_; rintro e w' ⟨rfl, rfl⟩)
    go_ret2
    exact ⟨rfl, Below.refl _ _⟩
  | true =>
    have hw := Lib.hid (walk_any h hf hcl dir (isDir_live hd) s hs)
    rw [hd] at hdi
    rw [if_pos rfl]
    clear h hf hcl hd
    go_enter Try.func24, Try.ntmps24
    go_wp2_with (first | (go_at_call 40; refine hdi.out.mono ?_; rintro e w' ⟨rfl, rfl⟩) | (go_at_call 51; refine hw.out.mono ?_; rintro e w1 ⟨rfl, hb1⟩))
    go_ret2
    exact ⟨rfl, hb1⟩
theorem Walk_nil (dir : Int) (s : ByteArray) (w : World) : Calls Try.prog 24 #[.pointer none, .int .i64 dir, .string s] w fun e w' => e = .returned (.tuple #[.int .i64 0, .int .i64 9]) ∧ w' = w := by
  go_enter Try.func24, Try.ntmps24
  go_wp2_with (go_at_call 40; refine (isDir_nil _ _).mono ?_; rintro e w' ⟨rfl, rfl⟩)
  go_ret2
  exact ⟨rfl, rfl⟩
end
end Go.Proofs.Ytohgecmbkjienaa
