/- make. Condition: the tree lies as stated. -/
import Derived.Test.YtohgecmbkjienaaFlAC
namespace Go.Proofs.Ytohgecmbkjienaa
open Go.RowKit Go.Shelf Go.PlainAid
attribute [local go_sem] Oper.semAt_some
theorem setEnts_at {f : Fs} {i : Nat} {I : Ino} (h : f[i]? = some (some I)) (g : Ents → Ents) : setEnts f (i + 1) g = f.set i (some { I with ents := g I.ents }) := by
  unfold setEnts
  rw [show ((i + 1 : Nat) : Int) = (i : Int) + 1 by omega, node_at h]
  rfl
theorem setLinks_at {f : Fs} {i : Nat} {I : Ino} (h : f[i]? = some (some I)) (g : Nat → Nat) : setLinks f (i + 1) g = f.set i (some { I with links := g I.links }) := by
  unfold setLinks
  rw [show ((i + 1 : Nat) : Int) = (i : Int) + 1 by omega, node_at h]
  rfl
theorem putNew_old {f : Fs} {i : Nat} {D : Ino} (h : f[i]? = some (some D)) (I : Ino) : (putNew f I)[i]? = some (some D) := by
  have hl := (List.getElem?_eq_some_iff.1 h).1
  unfold putNew
  split
  · rename_i h1
    rw [List.getElem?_set_ne (fun e => by
      have h2 := free_none f h1
      rw [e, h] at h2
      cases h2)]
    exact h
  · rw [List.getElem?_append_left hl]
    exact h
theorem putNew_len (f : Fs) (I : Ino) : (putNew f I).length ≤ f.length + 1 := by unfold putNew; split <;> simp
section
variable {w : World} {B : Nat → Nat → Prop} {p : Nat} {f : Fs} {sv : Value} {ps : List (Option Nat)}
theorem FsAt.below (h : FsAt w B p f sv ps) {w' : World} (hb : Below w.heap.size w w') : FsAt w' B p f sv ps := h.keep hb.size (fun i g hg => hb.block g (h.lt i g hg))
theorem FsP.after {O : Nat → Prop} {w w1 w2 : World} {p : Nat} {f : Fs} (hb : Below w.heap.size w w1) (h : FsP O w1 w2 p f) : FsP O w w2 p f := by
  obtain ⟨B', h1, h2, h3⟩ := h
  exact ⟨B', h1, fun g hg => (h2 g hg).elim .inl (fun h => .inr (Nat.le_trans hb.size h)), (Frm.of_below hb).trans (fun g h => .inl h) h3⟩
theorem FsP.join {O : Nat → Prop} {w w1 w2 : World} {B' : Nat → Nat → Prop} {p : Nat} {f : Fs} (h2 : ∀ g, All B' g → O g ∨ w.heap.size ≤ g) (h3 : Frm O w w1) (k : FsP (All B') w1 w2 p f) : FsP O w w2 p f := FsP.trans h2 h3 k
theorem setB {w w2 : World} (h : Below w.heap.size w w2) {q o : Nat} (hq : w.heap.size = q) (u : Value) : Below w.heap.size w (w2.setCell ⟨q, o, none⟩ u) :=
  ⟨h.os, h.tape, h.output, by simpa using h.size, fun g hg => (Below.heap_setCell _ _ _ _ (fun e => by have h9 : g = q := e; omega)).trans (h.block g hg)⟩
theorem below_drew {n : Nat} {w w2 : World} (h : Below n w w2) : Below n w w2.drew := ⟨h.os, h.tape, h.output, h.size, h.block⟩
/-- An entry is laid into a directory. -/
theorem addAt_any (h : FsAt w B p f sv ps) {i : Nat} {D : Ino} (hi : f[i]? = some (some D)) (hD : Fine D) (hlen : f.length ≤ 100000) (x : ByteArray) (k : Nat) : ∃ q, Calls Try.prog 38 #[.pointer (some ⟨p, 0, none⟩), .int .i64 ((i : Int) + 1)] w (fun e w' => e = .returned (.pointer (some ⟨q, 0, none⟩)) ∧ w' = w) ∧
    Calls Try.prog 59 #[.pointer (some ⟨q, 0, none⟩), .string x, .int .i64 k] w (fun e w' => e = .returned (.tuple #[]) ∧ FsP (All B) w w' p (setEnts f (i + 1) (fun l => addM l x k))) := by
  obtain ⟨q, hq, dv, ev, hA⟩ := h.some_ i D hi
  refine ⟨q, node_yes h hq hlen, (add_any hA hD x k).mono fun e w' h9 => ⟨h9.1, ?_⟩⟩
  rw [setEnts_at hi]
  exact h.turnP (List.getElem?_eq_some_iff.1 hi).1 hq h9.2
set_option maxRecDepth 100000 in
set_option maxHeartbeats 1000000 in
theorem make_any (h : FsAt w B p f sv ps) (hf : FineF f) {i : Nat} {D : Ino} (hi : f[i]? = some (some D)) (x : ByteArray) (I : Ino) (hd : I.data = []) (he : I.ents = []) (hlen : f.length ≤ 9000) :
    Calls Try.prog 43 #[.pointer (some ⟨p, 0, none⟩), .int .i64 ((i : Int) + 1), .string x, .agg #[.int .i64 I.kind, .int .i64 I.mode, .int .i64 I.links, .int .i64 I.holds, .slice none 0 0, .slice none 0 0, .int .i64 I.parent]] w fun e w' =>
      e = .returned (.tuple #[.int .i64 (makeM f (i + 1) x I).1, .int .i64 (makeM f (i + 1) x I).2.1]) ∧ FsP (All B) w w' p (makeM f (i + 1) x I).2.2 := by
  obtain ⟨q0, hq0⟩ : ∃ q, w.heap.size = q := ⟨_, rfl⟩
  obtain ⟨W0, hW0⟩ : ∃ W, w.alloc (.cells #[.int .i64 I.kind, .int .i64 I.mode, .int .i64 I.links, .int .i64 I.holds, .slice none 0 0, .slice none 0 0, .int .i64 I.parent] 73) = W := ⟨_, rfl⟩
  have hB0 : Blk W0 q0 73 #[.int .i64 I.kind, .int .i64 I.mode, .int .i64 I.links, .int .i64 I.holds, .slice none 0 0, .slice none 0 0, .int .i64 I.parent] := by rw [← hW0, ← hq0]; exact Blk.new _ _ _
  have hb0 : Below w.heap.size w W0 := by rw [← hW0]; exact (Below.refl _ _).alloc (Nat.le_refl _) _
  have h0 := h.below hb0
  have hmay := Lib.hid (mayAdd_any h0 (node_at hi) hf x)
  have hcnt := Lib.hid (fun (w1 : World) (hb : Below W0.heap.size W0 w1) => count_any (h0.below hb) (by omega))
  have hM : makeM f (i + 1) x I = if mayAddM f ((i : Int) + 1) x ≠ 0 then (0, mayAddM f ((i : Int) + 1) x, f) else if 100 ≤ countM f then (0, 23, f) else (free f + 1, 0, setEnts (putNew f { I with links := 1 }) (i + 1) (fun l => addM l x (free f + 1))) := by
    unfold makeM
    rw [show ((i + 1 : Nat) : Int) = (i : Int) + 1 by omega]
  rw [hM]
  clear hM
  have hS := Lib.hid (fun (w1 : World) (hb : Below W0.heap.size W0 w1) => FsP.after hb0 (FsP.of (show FsIs W0 B p f from ⟨sv, ps, h0⟩) hb))
  have hW0H := Lib.hid hW0
  have hq0H := Lib.hid hq0
  by_cases h1 : mayAddM f ((i : Int) + 1) x = 0
  · rw [if_neg (fun h => h h1)]
    have hmay2 := Lib.hid (by have h9 := hmay.out; rw [h1] at h9; exact h9)
    have hcl := count_le f
    obtain ⟨cn, hcn⟩ : ∃ x, countM f = x := ⟨_, rfl⟩
    rw [hcn] at hcnt hcl ⊢
    by_cases h2 : 100 ≤ cn
    · rw [if_pos h2]
      clear h hf hi hd he h0 hb0 hmay h1 hcn hW0 hq0 hB0
      go_enter Try.func43, Try.ntmps43
      go_wp2_with (first | rw [hW0H.out, hq0H.out] | (go_at_call 60; refine hmay2.out.mono ?_; rintro e w1 ⟨rfl, hb1⟩) | (go_at_call 13; refine (hcnt.out _ hb1).mono ?_; rintro e w2 ⟨rfl, hb2⟩))
      go_ret2
      exact ⟨rfl, hS.out _ (hb1.trans (below_of hb2 hb1.size))⟩
    · rw [if_neg h2]
      have hPut := Lib.hid (fun (W : World) (hb : Below w.heap.size w W) => (put_any (h.below hb) { I with links := 1 } hd he (by omega)).mono fun e w4 h9 => And.intro h9.1 (show ∃ q, Calls Try.prog 38 #[.pointer (some ⟨p, 0, none⟩), .int .i64 ((i : Int) + 1)] w4 (fun e w' => e = .returned (.pointer (some ⟨q, 0, none⟩)) ∧ w' = w4) ∧
          Calls Try.prog 59 #[.pointer (some ⟨q, 0, none⟩), .string x, .int .i64 ((free f : Nat) + 1)] w4 (fun e w' => e = .returned (.tuple #[]) ∧ FsP (All B) w w' p (setEnts (putNew f { I with links := 1 }) (i + 1) (fun l => addM l x (free f + 1)))) by
        obtain ⟨B1, ⟨sv1, ps1, h1'⟩, k2, k3⟩ := FsP.after hb h9.2
        obtain ⟨q, e1, e2⟩ := addAt_any h1' (putNew_old hi _) (hf.2 i D hi) (by have := putNew_len f { I with links := 1 }; omega) x (free f + 1)
        exact ⟨q, e1, e2.mono fun e w5 h10 => ⟨h10.1, FsP.join k2 k3 h10.2⟩⟩))
      have hfl := free_le f
      obtain ⟨fr, hfr⟩ : ∃ y, free f = y := ⟨_, rfl⟩
      rw [hfr] at hPut hfl ⊢
      have hB0H := Lib.hid (fun (W : World) (hb : Below W0.heap.size W0 W) => blk_beneath hB0 hb)
      have hb0H := Lib.hid hb0
      have hs0 : Hid (W0.heap.size = q0 + 1) := Lib.hid (by rw [← hW0, ← hq0]; simp)
      clear h hf hi hd he h0 hb0 hmay h1 hcn hW0 hq0 hB0 hS hfr
      go_enter Try.func43, Try.ntmps43
      go_wp2_with (first | rw [hW0H.out, hq0H.out] | (go_at_call 60; refine hmay2.out.mono ?_; rintro e w1 ⟨rfl, hb1⟩) | (go_at_call 13; refine (hcnt.out _ hb1).mono ?_; rintro e w2 ⟨rfl, hb2⟩; go_loud (have hb3 := hb1.trans (below_of hb2 hb1.size)); have hB3 := hB0H.out _ hb3; have cl : w2.cell? ⟨q0, 2, none⟩ = some (.int .i64 I.links) := hB3.cell 2; have fl := hB3.frozen 2; have hB4 := hB3.set_ 2 (.int .i64 1); have d0 : (w2.setCell ⟨q0, 2, none⟩ (.int .i64 1)).cell? ⟨q0, 0, none⟩ = some (.int .i64 I.kind) := hB4.cell 0; have d1 : (w2.setCell ⟨q0, 2, none⟩ (.int .i64 1)).cell? ⟨q0, 1, none⟩ = some (.int .i64 I.mode) := hB4.cell 1; have d2 : (w2.setCell ⟨q0, 2, none⟩ (.int .i64 1)).cell? ⟨q0, 2, none⟩ = some (.int .i64 1) := hB4.cell 2; have d3 : (w2.setCell ⟨q0, 2, none⟩ (.int .i64 1)).cell? ⟨q0, 3, none⟩ = some (.int .i64 I.holds) := hB4.cell 3; have d4 : (w2.setCell ⟨q0, 2, none⟩ (.int .i64 1)).cell? ⟨q0, 4, none⟩ = some (.slice none 0 0) := hB4.cell 4; have d5 : (w2.setCell ⟨q0, 2, none⟩ (.int .i64 1)).cell? ⟨q0, 5, none⟩ = some (.slice none 0 0) := hB4.cell 5; have d6 : (w2.setCell ⟨q0, 2, none⟩ (.int .i64 1)).cell? ⟨q0, 6, none⟩ = some (.int .i64 I.parent) := hB4.cell 6; have hb5 : Below w.heap.size w (w2.setCell ⟨q0, 2, none⟩ (.int .i64 1)).drew := below_drew (setB (hb0H.out.trans (below_of hb3 hb0H.out.size)) hq0H.out _)))
      go_region_with (go_at_call 32; refine (hPut.out _ hb5).mono ?_; rintro e w4 ⟨rfl, q, hn4, ha4⟩)
      all_goals
        go_wp2_with (first | (go_at_call 38; refine hn4.mono ?_; rintro e w' ⟨rfl, rfl⟩) | (go_at_call 59; refine ha4.mono ?_; rintro e w5 ⟨rfl, hP5⟩))
        go_ret2
        exact ⟨rfl, hP5⟩
  · rw [if_pos h1]
    obtain ⟨er, her⟩ : ∃ y, mayAddM f ((i : Int) + 1) x = y := ⟨_, rfl⟩
    rw [her] at hmay h1 ⊢
    have h1' : ¬ (er : Int) = 0 := by omega
    clear h hf hi hd he h0 hb0 her hW0 hq0 hB0
    go_enter Try.func43, Try.ntmps43
    go_wp2_with (first | rw [hW0H.out, hq0H.out] | (go_at_call 60; refine hmay.out.mono ?_; rintro e w1 ⟨rfl, hb1⟩))
    go_ret2
    exact ⟨rfl, hS.out _ hb1⟩
end
end Go.Proofs.Ytohgecmbkjienaa
