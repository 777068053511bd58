/- Link. Condition: the tree lies as stated. -/
import Derived.Test.YtohgecmbkjienaaFlAS
namespace Go.Proofs.Ytohgecmbkjienaa
open Go.RowKit Go.Shelf Go.PlainAid
attribute [local go_sem] Oper.semAt_some
theorem WalkM_dir {f : Fs} {dir : Int} {s : ByteArray} (h : (WalkM f dir s).2 = 0) : isDir f dir = true := by
  unfold WalkM at h
  cases hd : isDir f dir with
  | false => rw [hd] at h; cases h
  | true => rfl
theorem walk_live {f : Fs} (hc : Closed f) {dir : Int} {s : ByteArray} (h : (WalkM f dir s).2 = 0) : (node f (WalkM f dir s).1).isSome := by
  have hd := WalkM_dir h
  unfold WalkM at h ⊢
  rw [if_pos hd] at h ⊢
  unfold walkM at h ⊢
  split at h
  · contradiction
  · rename_i h0
    rw [if_neg h0]
    split at h
    · contradiction
    · rename_i h1
      rw [if_neg h1]
      split at h
      · cases h
      · rename_i h2
        rw [if_neg h2]
        exact steps_live hc _ _ (begin_live hc (isDir_live hd) s (by omega)) (by omega)
def LinkM (f : Fs) (dir : Int) (s t : ByteArray) : Nat × Fs :=
  if (WalkM f dir s).2 ≠ 0 then ((WalkM f dir s).2, f) else if isDir f (WalkM f dir s).1 = true then (21, f)
  else if (aheadM f dir t).2.2 ≠ 0 then ((aheadM f dir t).2.2, f) else if slashed t = true then (21, f)
  else if mayAddM f (aheadM f dir t).1 (aheadM f dir t).2.1 ≠ 0 then (mayAddM f (aheadM f dir t).1 (aheadM f dir t).2.1, f)
  else (0, setLinks (setEnts f (aheadM f dir t).1.toNat (fun l => addM l (aheadM f dir t).2.1 (WalkM f dir s).1.toNat)) (WalkM f dir s).1.toNat (· + 1))
section
variable {w : World} {B : Nat → Nat → Prop} {p : Nat} {f : Fs} {sv : Value} {ps : List (Option Nat)}
theorem link_tail (h : FsAt w B p f sv ps) (hf : FineF f) {i j : Nat} {D J : Ino} (hi : f[i]? = some (some D)) (hj : f[j]? = some (some J)) (x : ByteArray) :
    ∃ q, Calls Try.prog 38 #[.pointer (some ⟨p, 0, none⟩), .int .i64 ((i : Int) + 1)] w (fun e w' => e = .returned (.pointer (some ⟨q, 0, none⟩)) ∧ w' = w) ∧
    Calls Try.prog 59 #[.pointer (some ⟨q, 0, none⟩), .string x, .int .i64 ((j : Int) + 1)] w (fun e w2 => e = .returned (.tuple #[]) ∧ ∃ q2,
      Calls Try.prog 38 #[.pointer (some ⟨p, 0, none⟩), .int .i64 ((j : Int) + 1)] w2 (fun e w' => e = .returned (.pointer (some ⟨q2, 0, none⟩)) ∧ w' = w2) ∧
      w2.cell? ⟨q2, 2, none⟩ = some (.int .i64 J.links) ∧ w2.frozen? ⟨q2, 2, none⟩ = false ∧
      FsP (All B) w (w2.setCell ⟨q2, 2, none⟩ (.int .i64 ((J.links : Int) + 1))) p (setLinks (setEnts f (i + 1) (fun l => addM l x (j + 1))) (j + 1) (· + 1))) := by
  have hlen : f.length ≤ 100000 := by have := hf.1; omega
  obtain ⟨q, hq, dv, ev, hA⟩ := h.some_ i D hi
  have hil := (List.getElem?_eq_some_iff.1 hi).1
  have hjl := (List.getElem?_eq_some_iff.1 hj).1
  refine ⟨q, node_yes h hq hlen, ?_⟩
  have h9 := add_any hA (hf.2 i D hi) x (j + 1)
  rw [show ((j + 1 : Nat) : Int) = (j : Int) + 1 by omega] at h9
  refine h9.mono fun e w2 h9 => ⟨h9.1, ?_⟩
  have hf1 : setEnts f (i + 1) (fun l => addM l x (j + 1)) = f.set i (some { D with ents := addM D.ents x (j + 1) }) := setEnts_at hi _
  obtain ⟨J1, hJ1, hJl⟩ : ∃ J1, (setEnts f (i + 1) (fun l => addM l x (j + 1)))[j]? = some (some J1) ∧ J1.links = J.links := by
    rw [hf1]
    by_cases e : i = j
    · subst e
      rw [List.getElem?_set_self hil]
      exact ⟨_, rfl, by rw [hi] at hj; cases hj; rfl⟩
    · exact ⟨J, by rw [List.getElem?_set_ne e]; exact hj, rfl⟩
  have h10 := h.turnP hil hq h9.2
  rw [← hf1] at h10
  obtain ⟨B1, ⟨sv1, ps1, h1⟩, k2, k3⟩ := h10
  obtain ⟨q2, hq2, dv2, ev2, hA2⟩ := h1.some_ j J1 hJ1
  have c2 := hA2.blk.cell 2
  refine ⟨q2, node_yes h1 hq2 (by rw [hf1, List.length_set]; exact hlen), by rw [← hJl]; exact c2, hA2.blk.frozen 2, ?_⟩
  rw [setLinks_at hJ1]
  have h11 := h1.turnP (by rw [hf1, List.length_set]; exact hjl) hq2 (hA2.field (Below.refl _ _) 2 (.int .i64 ((J1.links + 1 : Nat) : Int)) { J1 with links := J1.links + 1 } rfl rfl rfl)
  rw [show ((J1.links + 1 : Nat) : Int) = (J.links : Int) + 1 by omega] at h11
  exact FsP.join k2 k3 h11
set_option maxHeartbeats 1000000 in
theorem link_any (h : FsAt w B p f sv ps) (hf : FineF f) (hcl : Closed f) (dir : Int) (s t : ByteArray) (hs : s.size ≤ maxLen) (ht : t.size ≤ maxLen) : Calls Try.prog 28 #[.pointer (some ⟨p, 0, none⟩), .int .i64 dir, .string s, .string t] w fun e w' => e = .returned (.int .i64 (LinkM f dir s t).1) ∧ FsP (All B) w w' p (LinkM f dir s t).2 := by
  have hlen : f.length ≤ 100000 := by have := hf.1; omega
  have hS := Lib.hid (fun (w1 : World) (hb : Below w.heap.size w w1) => FsP.of (show FsIs w B p f from ⟨sv, ps, h⟩) hb)
  have hwk := Lib.hid (Walk_any h hf hcl dir s hs)
  unfold LinkM
  by_cases h0 : (WalkM f dir s).2 = 0
  · rw [if_neg (fun h => h h0)]
    obtain ⟨J, hJ⟩ := Option.isSome_iff_exists.1 (walk_live hcl h0)
    obtain ⟨j, hk, _, hj⟩ := node_some hJ
    have hdl := isDir_live (WalkM_dir h0)
    have hid := Lib.hid (fun (W : World) (hb : Below w.heap.size w W) => isDir_fs (h.below hb) ((j : Int) + 1) hlen)
    have hah := Lib.hid (fun (W : World) (hb : Below w.heap.size w W) => ((ahead_any (h.below hb) hf hcl dir hdl t ht).mono fun e w' h9 => And.intro h9.1 (show Below w.heap.size w w' from hb.trans (below_of h9.2 hb.size))))
    rw [h0, hk] at hwk
    rw [hk, show ((j : Int) + 1).toNat = j + 1 by omega]
    have hll := (hf.2 j J hj).ll
    cases hd : isDir f ((j : Int) + 1) with
    | true =>
      rw [hd] at hid
      rw [if_pos rfl]
      clear h hf hcl h0 hJ hk hj hdl hah hd
      go_enter Try.func28, Try.ntmps28
      go_wp2_with (first | (go_at_call 24; refine hwk.out.mono ?_; rintro e w1 ⟨rfl, hb1⟩) | (go_at_call 40; refine (hid.out _ hb1).mono ?_; rintro e w' ⟨rfl, rfl⟩))
      go_ret
      exact ⟨rfl, hS.out _ hb1⟩
    | false =>
      rw [hd] at hid
      rw [if_neg (by decide)]
      by_cases h1 : (aheadM f dir t).2.2 = 0
      · rw [if_neg (fun h => h h1)]
        obtain ⟨D, hD, _⟩ := ahead_live h1
        obtain ⟨i, hn, _, hi⟩ := node_some hD
        obtain ⟨x, hx⟩ : ∃ y, (aheadM f dir t).2.1 = y := ⟨_, rfl⟩
        rw [h1, hn, hx] at hah
        rw [hn, hx, show ((i : Int) + 1).toNat = i + 1 by omega]
        have hma := Lib.hid (fun (W : World) (hb : Below w.heap.size w W) => ((mayAdd_any (h.below hb) (node_at hi) hf x).mono fun e w' h9 => And.intro h9.1 (show Below w.heap.size w w' from hb.trans (below_of h9.2 hb.size))))
        have htl := Lib.hid (fun (W : World) (hb : Below w.heap.size w W) => show ∃ q, Calls Try.prog 38 #[.pointer (some ⟨p, 0, none⟩), .int .i64 ((i : Int) + 1)] W (fun e w' => e = .returned (.pointer (some ⟨q, 0, none⟩)) ∧ w' = W) ∧
          Calls Try.prog 59 #[.pointer (some ⟨q, 0, none⟩), .string x, .int .i64 ((j : Int) + 1)] W (fun e w2 => e = .returned (.tuple #[]) ∧ ∃ q2,
          Calls Try.prog 38 #[.pointer (some ⟨p, 0, none⟩), .int .i64 ((j : Int) + 1)] w2 (fun e w' => e = .returned (.pointer (some ⟨q2, 0, none⟩)) ∧ w' = w2) ∧
          w2.cell? ⟨q2, 2, none⟩ = some (.int .i64 J.links) ∧ w2.frozen? ⟨q2, 2, none⟩ = false ∧
          FsP (All B) w (w2.setCell ⟨q2, 2, none⟩ (.int .i64 ((J.links : Int) + 1))) p (setLinks (setEnts f (i + 1) (fun l => addM l x (j + 1))) (j + 1) (· + 1))) by
          obtain ⟨q, e1, e2⟩ := link_tail (h.below hb) hf hi hj x
          exact ⟨q, e1, e2.mono fun e w2 ⟨h9, q2, k1, k2, k3, k4⟩ => ⟨h9, q2, k1, k2, k3, FsP.after hb k4⟩⟩)
        cases hsl : slashed t with
        | true =>
          rw [if_pos rfl]
          clear h hf hcl h0 hJ hk hj hdl hd h1 hD hn hi hx htl hma
          go_enter Try.func28, Try.ntmps28
          go_wp2_with (first | (go_at_call 24; refine hwk.out.mono ?_; rintro e w1 ⟨rfl, hb1⟩) | (go_at_call 40; refine (hid.out _ hb1).mono ?_; rintro e w' ⟨rfl, rfl⟩) | (go_at_call 41; refine (hah.out _ hb1).mono ?_; rintro e w2 ⟨rfl, hb2⟩) | (go_at_call 42; refine (slashed_any t _ ht).mono ?_; rintro e w' ⟨rfl, rfl⟩; rw [hsl]))
          go_ret
          exact ⟨rfl, hS.out _ hb2⟩
        | false =>
          rw [if_neg (by decide)]
          by_cases h2 : mayAddM f ((i : Int) + 1) x = 0
          · rw [if_neg (fun h => h h2)]
            rw [h2] at hma
            clear h hf hcl h0 hJ hk hj hdl hd h1 hD hn hi hx h2
            go_enter Try.func28, Try.ntmps28
            go_wp2_with (first | (go_at_call 24; refine hwk.out.mono ?_; rintro e w1 ⟨rfl, hb1⟩) | (go_at_call 40; refine (hid.out _ hb1).mono ?_; rintro e w' ⟨rfl, rfl⟩) | (go_at_call 41; refine (hah.out _ hb1).mono ?_; rintro e w2 ⟨rfl, hb2⟩) | (go_at_call 42; refine (slashed_any t _ ht).mono ?_; rintro e w' ⟨rfl, rfl⟩; rw [hsl]) | (go_at_call 60; refine (hma.out _ hb2).mono ?_; rintro e w3 ⟨rfl, hb3⟩) | (go_at_call 38; refine hn2.mono ?_; rintro e w' ⟨rfl, rfl⟩) | (go_at_call 38; obtain ⟨q, hnq, haq⟩ := htl.out _ hb3; refine hnq.mono ?_; rintro e w' ⟨rfl, rfl⟩) | (go_at_call 59; refine haq.mono ?_; rintro e w4 ⟨rfl, q2, hn2, c2, g2, hP2⟩))
            go_ret
            exact ⟨rfl, hP2⟩
          · rw [if_pos h2]
            obtain ⟨er, her⟩ : ∃ y, mayAddM f ((i : Int) + 1) x = y := ⟨_, rfl⟩
            rw [her] at hma h2 ⊢
            have h1' : ¬ (er : Int) = 0 := by omega
            clear h hf hcl h0 hJ hk hj hdl hd h1 hD hn hi hx htl her
            go_enter Try.func28, Try.ntmps28
            go_wp2_with (first | (go_at_call 24; refine hwk.out.mono ?_; rintro e w1 ⟨rfl, hb1⟩) | (go_at_call 40; refine (hid.out _ hb1).mono ?_; rintro e w' ⟨rfl, rfl⟩) | (go_at_call 41; refine (hah.out _ hb1).mono ?_; rintro e w2 ⟨rfl, hb2⟩) | (go_at_call 42; refine (slashed_any t _ ht).mono ?_; rintro e w' ⟨rfl, rfl⟩; rw [hsl]) | (go_at_call 60; refine (hma.out _ hb2).mono ?_; rintro e w3 ⟨rfl, hb3⟩))
            go_ret
            exact ⟨rfl, hS.out _ hb3⟩
      · rw [if_pos h1]
        obtain ⟨er, her⟩ : ∃ y, (aheadM f dir t).2.2 = y := ⟨_, rfl⟩
        rw [her] at hah h1 ⊢
        have h1' : ¬ (er : Int) = 0 := by omega
        clear h hf hcl h0 hJ hk hj hdl hd her
        go_enter Try.func28, Try.ntmps28
        go_wp2_with (first | (go_at_call 24; refine hwk.out.mono ?_; rintro e w1 ⟨rfl, hb1⟩) | (go_at_call 40; refine (hid.out _ hb1).mono ?_; rintro e w' ⟨rfl, rfl⟩) | (go_at_call 41; refine (hah.out _ hb1).mono ?_; rintro e w2 ⟨rfl, hb2⟩))
        go_ret
        exact ⟨rfl, hS.out _ hb2⟩
  · rw [if_pos h0]
    obtain ⟨er, her⟩ : ∃ y, (WalkM f dir s).2 = y := ⟨_, rfl⟩
    rw [her] at hwk h0 ⊢
    have h1' : ¬ (er : Int) = 0 := by omega
    clear h hf hcl her
    go_enter Try.func28, Try.ntmps28
    go_wp2_with (first | (go_at_call 24; refine hwk.out.mono ?_; rintro e w1 ⟨rfl, hb1⟩))
    go_ret
    exact ⟨rfl, hS.out _ hb1⟩
end
end Go.Proofs.Ytohgecmbkjienaa
