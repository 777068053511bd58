/- A file that is held keeps its bytes: as plain data. No condition. -/
import Derived.Test.YtohgecmbkjienaaMgD
namespace Go.Proofs.Ytohgecmbkjienaa
open Go.RowKit Go.Shelf Go.PlainAid
set_option linter.unusedVariables false
set_option linter.unusedSimpArgs false
def HP (dt : List UInt8) (I : Ino) : Prop := I.kind = 1 ∧ I.data = dt ∧ I.holds = 1
def Held (dt : List UInt8) (f : Fs) : Prop := ∃ I, f[1]? = some (some I) ∧ HP dt I
section
variable {dt : List UInt8} {f : Fs}
theorem held_set (h : Held dt f) {i : Nat} {I I' : Ino} (hi : f[i]? = some (some I)) (k : i = 1 → HP dt I → HP dt I') : Held dt (f.set i (some I')) := by
  obtain ⟨J, hJ, hp⟩ := h
  by_cases e : i = 1
  · subst e
    rw [hi] at hJ
    cases hJ
    exact ⟨I', List.getElem?_set_self (List.getElem?_eq_some_iff.1 hi).1, k rfl hp⟩
  · exact ⟨J, by rw [List.getElem?_set_ne e]; exact hJ, hp⟩
theorem held_ents (h : Held dt f) (n : Nat) (g : Ents → Ents) : Held dt (setEnts f (n + 1) g) := by
  cases hn : node f ((n + 1 : Nat) : Int) with
  | none =>
    unfold setEnts
    rw [hn]
    exact h
  | some I =>
    obtain ⟨i, e, hi⟩ := nat_node hn
    obtain rfl : i = n := by omega
    rw [setEnts_at hi]
    exact held_set h hi (fun _ h => h)
theorem held_links (h : Held dt f) (n : Nat) (g : Nat → Nat) : Held dt (setLinks f (n + 1) g) := by
  cases hn : node f ((n + 1 : Nat) : Int) with
  | none =>
    unfold setLinks
    rw [hn]
    exact h
  | some I =>
    obtain ⟨i, e, hi⟩ := nat_node hn
    obtain rfl : i = n := by omega
    rw [setLinks_at hi]
    exact held_set h hi (fun _ h => h)
theorem held_rel (h : Held dt f) (n : Nat) : Held dt (relM f (n + 1)) := by
  cases hn : node f ((n + 1 : Nat) : Int) with
  | none =>
    unfold relM
    rw [hn]
    exact h
  | some I =>
    obtain ⟨i, e, hi⟩ := nat_node hn
    obtain rfl : i = n := by omega
    rw [relM_at hi]
    split
    · rename_i k
      obtain ⟨J, hJ, hp⟩ := h
      have hne : i ≠ 1 := fun e => by
        subst e
        rw [hi] at hJ
        cases hJ
        have := hp.2.2
        omega
      exact ⟨J, by rw [List.getElem?_set_ne hne]; exact hJ, hp⟩
    · exact h
theorem held_mod (h : Held dt f) (n : Int) (g : Ino → Ino) (k : n ≠ 2 ∨ ∀ I, HP dt I → HP dt (g I)) : Held dt (modN f n g) := by
  cases hn : node f n with
  | none =>
    unfold modN
    rw [hn]
    exact h
  | some I =>
    obtain ⟨i, rfl, _, hi⟩ := node_some hn
    rw [modN_at hi]
    exact held_set h hi (fun e hp => by
      rcases k with k | k
      · omega
      · exact k I hp)
theorem held_new (h : Held dt f) (I : Ino) : Held dt (putNew f I) := by
  obtain ⟨J, hJ, hp⟩ := h
  refine ⟨J, ?_, hp⟩
  rw [putNew_get, if_neg (fun e => ?_)]
  · exact hJ
  · by_cases hlt : free f < f.length
    · have := free_get f hlt
      rw [← e, hJ] at this
      cases this
    · have := (free_all f hlt).1
      have := (List.getElem?_eq_some_iff.1 hJ).1
      omega
theorem held_make (h : Held dt f) (n : Nat) (x : ByteArray) (I : Ino) : Held dt (makeM f (n + 1) x I).2.2 := by
  unfold makeM
  split
  · exact h
  · split
    · exact h
    · exact held_ents (held_new h { I with links := 1 }) n (fun l => addM l x (free f + 1))
theorem held_unlink (h : Held dt f) (n : Nat) (x : ByteArray) : Held dt (unlinkM f (n + 1) x) := by
  unfold unlinkM
  split
  · exact h
  · rename_i I hI
    rcases Nat.eq_zero_or_pos (lookM I.ents x) with e | e
    · rw [e]
      have h1 := held_ents h n (fun l => remM l x)
      have h2 : setLinks (setEnts f (n + 1) fun l => remM l x) 0 (· - 1) = setEnts f (n + 1) fun l => remM l x := by
        unfold setLinks
        rw [show node (setEnts f (n + 1) fun l => remM l x) ((0 : Nat) : Int) = none from rfl]
      rw [h2]
      have h3 : relM (setEnts f (n + 1) fun l => remM l x) 0 = setEnts f (n + 1) fun l => remM l x := by
        unfold relM
        rw [show node (setEnts f (n + 1) fun l => remM l x) ((0 : Nat) : Int) = none from rfl]
      rw [h3]
      exact h1
    · obtain ⟨j, hj⟩ : ∃ j, lookM I.ents x = j + 1 := ⟨lookM I.ents x - 1, by omega⟩
      rw [hj]
      exact held_rel (held_links (held_ents h n _) j _) j
theorem ahead_pos {dir : Int} {s : ByteArray} (h : (aheadM f dir s).2.2 = 0) : ∃ i : Nat, (aheadM f dir s).1.toNat = i + 1 := by
  obtain ⟨D, hD, _⟩ := ahead_live h
  obtain ⟨i, e, _, _⟩ := node_some hD
  exact ⟨i, by omega⟩
theorem named_pos {dir : Int} {s : ByteArray} (hcl : Closed f) (h : (namedM f dir s).2.2.2 = 0) : ∃ i j : Nat, (namedM f dir s).1.toNat = i + 1 ∧ (namedM f dir s).2.2.1 = j + 1 := by
  obtain ⟨i, D, j, J, x, he, _⟩ := named_ok hcl h
  rw [he]
  exact ⟨i, j, by dsimp only; omega, rfl⟩
set_option maxHeartbeats 4000000 in
theorem held_step {c : Nat} (hw : WF c f) (h : Held dt f) (q N M K : Int) (s t : ByteArray) (hN : ¬ (N = 2 ∧ (q = 8 ∨ q = 9 ∨ q = 13 ∨ q = 14))) : Held dt (stepF f q N M K s t) := by
  have hcl := hw.closed
  unfold stepF
  split
  · unfold CreateM
    split
    · exact h
    · split
      · exact h
      · split
        · exact h
        · obtain ⟨i, hi⟩ := ahead_pos (f := f) (dir := N) (s := s) (by omega)
          rw [hi]
          exact held_make h i _ _
  · split
    · unfold MkdirM
      split
      · exact h
      · split
        · exact h
        · obtain ⟨i, hi⟩ := ahead_pos (f := f) (dir := N) (s := s) (by omega)
          rw [hi]
          exact held_make h i _ _
    · split
      · unfold UnlinkM
        split
        · exact h
        · obtain ⟨i, j, hi, hj⟩ := named_pos (f := f) (dir := N) (s := s) hcl (by omega)
          rw [hi]
          split
          · split
            · exact h
            · split
              · exact h
              · split
                · exact held_unlink h i _
                · exact h
          · exact h
      · split
        · unfold RmdirM
          split
          · exact h
          · obtain ⟨i, j, hi, hj⟩ := named_pos (f := f) (dir := N) (s := s) hcl (by omega)
            rw [hi]
            split
            · split
              · split
                · exact h
                · split
                  · exact held_unlink h i _
                  · exact h
              · exact h
            · exact h
        · split
          · unfold LinkM
            split
            · exact h
            · split
              · exact h
              · split
                · exact h
                · split
                  · exact h
                  · split
                    · exact h
                    · rename_i h1 _ h2 _ _
                      obtain ⟨i, hi⟩ := ahead_pos (f := f) (dir := N) (s := t) (by omega)
                      obtain ⟨J, hJ⟩ := Option.isSome_iff_exists.1 (walk_live hcl (dir := N) (s := s) (by omega))
                      obtain ⟨j, ej, _, hj⟩ := node_some hJ
                      rw [hi, ej, show ((j : Int) + 1).toNat = j + 1 by omega]
                      exact held_links (held_ents h i _) j _
          · split
            · unfold RenameM
              split
              · exact h
              · obtain ⟨i, j, hi, hj⟩ := named_pos (f := f) (dir := N) (s := s) hcl (by omega)
                rw [hi, hj]
                split
                · unfold ren1
                  split
                  · exact h
                  · split
                    · exact h
                    · rename_i h2
                      obtain ⟨e, he⟩ := ahead_pos (f := f) (dir := N) (s := t) (by omega)
                      rw [he]
                      split
                      · exact h
                      · unfold ren2
                        split
                        · exact h
                        · split
                          · exact h
                          · split
                            · unfold ren3
                              split
                              · exact h
                              · split
                                · exact h
                                · unfold renM
                                  refine held_mod (held_ents (held_ents ?_ i _) e _) _ _ (.inr fun I hI => hI)
                                  split
                                  · exact h
                                  · exact held_unlink h e _
                            · exact h
                · exact h
            · split
              · unfold WriteM
                split
                · exact h
                · split
                  · exact h
                  · split
                    · exact h
                    · split
                      · exact h
                      · split
                        · exact h
                        · exact held_mod h N _ (.inl (by omega))
              · split
                · unfold TruncM
                  split
                  · exact h
                  · split
                    · exact h
                    · split
                      · exact h
                      · split
                        · exact h
                        · exact held_mod h N _ (.inl (by omega))
                · split
                  · unfold ChmodM
                    split
                    · exact h
                    · exact held_mod h N _ (.inr fun I hI => hI)
                  · split
                    · unfold HoldM
                      split
                      · exact h
                      · exact held_mod h N _ (.inl (by omega))
                    · split
                      · unfold DropM
                        split
                        · exact h
                        · rename_i I hI
                          split
                          · exact h
                          · obtain ⟨i, e, _, _⟩ := node_some hI
                            have hm := held_mod h N (fun I => { I with holds := I.holds - 1 }) (.inl (by omega))
                            rw [show N.toNat = i + 1 by omega]
                            exact held_rel hm i
                      · exact h
end
end Go.Proofs.Ytohgecmbkjienaa
/- The walk of FilesHolds. Condition: the calls lie as stated; the texts' sizes. -/
namespace Go.Proofs.Ytohgecmbkjienaa
open Go.RowKit Go.Shelf Go.PlainAid
set_option linter.unusedVariables false
set_option linter.unusedSimpArgs false
attribute [local go_sem] Oper.semAt_some
def heldT : ByteArray := ⟨#[104, 101, 108, 100]⟩
def hd1 : Fs := [some ⟨2, 493, 1, 0, [], [(heldT, 2)], 1⟩, some ⟨1, 420, 1, 0, [], [], 0⟩]
def hd2 (l : List UInt8) : Fs := [some ⟨2, 493, 1, 0, [], [(heldT, 2)], 1⟩, some ⟨1, 420, 1, 0, l, [], 0⟩]
def hd3 (l : List UInt8) : Fs := [some ⟨2, 493, 1, 0, [], [(heldT, 2)], 1⟩, some ⟨1, 420, 1, 1, l, [], 0⟩]
theorem hd1_is : CreateM newM 1 heldT 420 = (2, 0, hd1) := by kernel_rfl
theorem hd2_is (s : ByteArray) (hs : s.size ≤ 1000) : WriteM hd1 2 0 s = (s.size, 0, hd2 s.data.toList) := by
  have hn : node hd1 2 = some ⟨1, 420, 1, 0, [], [], 0⟩ := rfl
  have hl : s.data.toList.length = s.size := by rw [Array.length_toList]; rfl
  unfold WriteM
  rw [hn]
  dsimp only
  rw [if_neg (by decide), if_neg (by decide)]
  have hz : sizM ⟨1, 420, 1, 0, [], [], 0⟩ (0 : Int).toNat s = s.size := by
    unfold sizM
    split
    · rename_i h
      rw [h]
      rfl
    · show max 0 (min 0 65536 + s.size) = s.size
      omega
  rw [hz, if_neg (fun h => by
    rcases h with h | h
    · omega
    · unfold roomM at h
      have h2 := of_decide_eq_false h
      have hb : bytesM hd1 = 0 := rfl
      rw [hb] at h2
      exact h2 (by show 0 + s.size ≤ 65536 + 0; omega))]
  by_cases h0 : s.size = 0
  · rw [if_pos h0]
    have h1 : s.data.toList = [] := List.eq_nil_of_length_eq_zero (by omega)
    rw [h0, h1]
    rfl
  · rw [if_neg h0]
    have hm : modN hd1 2 (fun I => { I with data := putL (resM I.data (sizM I (0 : Int).toNat s)) (0 : Int).toNat s.data.toList }) = hd2 (putL (resM [] (sizM ⟨1, 420, 1, 0, [], [], 0⟩ (0 : Int).toNat s)) 0 s.data.toList) := rfl
    have hp : putL (resM [] s.size) 0 s.data.toList = s.data.toList := by
      unfold putL
      rw [List.take_zero, List.nil_append, List.drop_eq_nil_of_le (by rw [resM_len]; omega), List.append_nil]
    rw [hm, hz, hp]
theorem hd3_is (l : List UInt8) : HoldM (hd2 l) 2 = (0, hd3 l) := rfl
theorem hd1_wf : WF 1 hd1 := by have h := create_wf new_wf 1 heldT 420; rw [hd1_is] at h; exact h
theorem hd2_wf (s : ByteArray) (hs : s.size ≤ 1000) : WF 2 (hd2 s.data.toList) := by have h := write_wf hd1_wf 2 0 s; rw [hd2_is s hs] at h; exact h
theorem hd3_wf (s : ByteArray) (hs : s.size ≤ 1000) : WF 3 (hd3 s.data.toList) := by have h := hold_wf (hd2_wf s hs) 2; rw [hd3_is] at h; exact h
section
variable {w0 w : World} {p c : Nat} {f : Fs} {dt : List UInt8}
theorem Own.createO (h : Own w0 w p f) (hw : WF c f) (hc : c ≤ 5000) (N M : Int) (s : ByteArray) (hs : s.size ≤ maxLen) : Calls Try.prog 17 #[.pointer (some ⟨p, 0, none⟩), .int .i64 N, .string s, .int .i64 M] w fun e w' => e = .returned (.tuple #[.int .i64 (CreateM f N s M).1, .int .i64 (CreateM f N s M).2.1]) ∧ Own w0 w' p (CreateM f N s M).2.2 :=
  h.calls fun B sv ps h1 => create_any h1 (hw.fine hc) (by have := hw.len; omega) hw.closed N s M hs
theorem Own.writeO (h : Own w0 w p f) (hw : WF c f) (hc : c ≤ 5000) (N M : Int) (s : ByteArray) (hs : s.size ≤ 9000000000000000000) : Calls Try.prog 18 #[.pointer (some ⟨p, 0, none⟩), .int .i64 N, .int .i64 M, .string s] w fun e w' => e = .returned (.tuple #[.int .i64 (WriteM f N M s).1, .int .i64 (WriteM f N M s).2.1]) ∧ Own w0 w' p (WriteM f N M s).2.2 :=
  h.calls fun B sv ps h1 => write_any h1 (hw.fine hc) N M s hs
theorem Own.holdO (h : Own w0 w p f) (hw : WF c f) (hc : c ≤ 5000) (N : Int) : Calls Try.prog 19 #[.pointer (some ⟨p, 0, none⟩), .int .i64 N] w fun e w' => e = .returned (.int .i64 (HoldM f N).1) ∧ Own w0 w' p (HoldM f N).2 :=
  h.calls fun B sv ps h1 => hold_any h1 (hw.fine hc) N
theorem Own.dropO (h : Own w0 w p f) (hw : WF c f) (hc : c ≤ 5000) (N : Int) : Calls Try.prog 21 #[.pointer (some ⟨p, 0, none⟩), .int .i64 N] w fun e w' => e = .returned (.int .i64 (DropM f N).1) ∧ Own w0 w' p (DropM f N).2 :=
  h.calls fun B sv ps h1 => drop_any h1 (hw.fine hc) N
theorem held_node (h : Held dt f) : ∃ I, node f 2 = some I ∧ HP dt I := by
  obtain ⟨I, hI, hp⟩ := h
  exact ⟨I, node_nat hI, hp⟩
theorem held_read (h : Held dt f) (hd : dt.length ≤ 1000) : ReadM f 2 0 2000 = (⟨dt.toArray⟩, 0) := by
  obtain ⟨I, hI, h1, h2, _⟩ := held_node h
  unfold ReadM
  rw [hI]
  dsimp only
  rw [if_neg (by unfold Ino.isDir; rw [h1]; decide), if_neg (by omega)]
  unfold readL
  rw [h2]
  show (ByteArray.mk (dt.take 2000).toArray, 0) = _
  rw [List.take_of_length_le (by omega)]
/-- Let go, it is free if nothing names it. -/
theorem held_drop (h : Held dt f) : ∃ I, node f 2 = some I ∧ (DropM f 2).1 = 0 ∧ (StatM (DropM f 2).2 2).2 = (if I.links = 0 then 9 else 0) := by
  obtain ⟨I, hI, h1, h2, h3⟩ := held_node h
  obtain ⟨i, e, _, hi⟩ := node_some hI
  obtain rfl : i = 1 := by omega
  refine ⟨I, hI, ?_, ?_⟩
  · unfold DropM
    rw [hI]
    dsimp only
    rw [if_neg (by omega)]
  · unfold DropM
    rw [hI]
    dsimp only
    rw [if_neg (by omega)]
    dsimp only
    rw [show (2 : Int) = ((1 : Nat) : Int) + 1 from rfl, modN_at hi, show (((1 : Nat) : Int) + 1).toNat = 1 + 1 from rfl, relM_at (set_get hi)]
    dsimp only
    by_cases h4 : I.links = 0
    · rw [if_pos ⟨h4, by omega⟩, if_pos h4]
      have hn : node ((f.set 1 (some { I with holds := I.holds - 1 })).set 1 none) (((1 : Nat) : Int) + 1) = none := by
        rw [node_succ, List.getElem?_set_self (by rw [List.length_set]; exact (List.getElem?_eq_some_iff.1 hi).1)]
        rfl
      unfold StatM
      rw [hn]
    · rw [if_neg (fun h => h4 h.1), if_neg h4]
      unfold StatM
      rw [node_at (set_get hi)]
end
set_option maxRecDepth 100000 in
set_option maxHeartbeats 16000000 in
theorem filesHolds_walk (d : ByteArray) (A : Option Addr) (len cap : Nat) (cs : List Cl) (w : World) (hd : d.size ≤ maxLen) (hl : cs.length = len) (hA : CallsAt w.heap.size w A cs) (hlen : len ≤ maxLen) (hB : ∀ x ∈ cs, ClB x) (hS : ∀ x ∈ cs, x.s.size ≤ reachBytes ∧ x.t.size ≤ reachBytes) :
    Calls Try.prog 4 #[.string d, .slice A len cap] w fun e w' => e = .returned (.bool true) ∧ Below w.heap.size w w' := by
  unfold maxLen at hlen
  have hAH := Lib.hid hA
  have hBH := Lib.hid hB
  have hSH := Lib.hid hS
  have hlH := Lib.hid hl
  clear hA hB hS hl
  by_cases hbig : 1000 < d.size
  · have xg : decide ((1000 : Int) < (d.size : Int)) = true := by simp; omega
    unfold maxLen at hd
    go_enter Try.func4, Try.ntmps4
    go_wp2_with fail
    refine (awake_any w).mono ?_
    rintro e w1 ⟨rfl, hB1⟩
    go_wp2_with fail
    go_ret
    exact ⟨rfl, hB1⟩
  · have hd9 : d.size ≤ 1000 := by omega
    have xg : ¬ (1000 : Int) < (d.size : Int) := by omega
    clear hd hbig
    go_enter Try.func4, Try.ntmps4
    go_wp2_with fail
    refine (awake_any w).mono ?_
    rintro e w1 ⟨rfl, hB1⟩
    go_wp2_with fail
    refine (new_own w1).mono ?_
    rintro e w2 ⟨rfl, hO2⟩
    have hO := FsP.after hB1 hO2
    obtain ⟨p, hp⟩ : ∃ p, w1.heap.size = p := ⟨_, rfl⟩
    rw [hp] at hO ⊢
    have hcr := Own.createO (w0 := w) hO new_wf (by omega) 1 420 heldT (by unfold maxLen; decide)
    rw [hd1_is] at hcr
    have hcr := Lib.hid hcr
    clear hO2 hB1 hp hO
    go_wp2_with fail
    refine hcr.out.mono ?_
    rintro e w3 ⟨rfl, hO3⟩
    have hwr := Own.writeO hO3 hd1_wf (by omega) 2 0 d (by omega)
    rw [hd2_is d hd9] at hwr
    have hwr := Lib.hid hwr
    clear hO3
    go_wp2_with fail
    refine hwr.out.mono ?_
    rintro e w4 ⟨rfl, hO4⟩
    have hho := Own.holdO hO4 (hd2_wf d hd9) (by omega) 2
    rw [hd3_is] at hho
    have hho := Lib.hid hho
    clear hO4
    have xs : (((d.size : Nat) : Int) != ((d.size : Nat) : Int)) = false := by simp
    go_wp2_with fail
    refine hho.out.mono ?_
    rintro e w5 ⟨rfl, hO5⟩
    have hO5H := Lib.hid hO5
    clear hO5
    have hhd : Hid (Held d.data.toList (hd3 d.data.toList)) := Lib.hid ⟨_, rfl, rfl, rfl, rfl⟩
    have hw3 := Lib.hid (hd3_wf d hd9)
    have hdl : d.data.toList.length ≤ 1000 := by rw [Array.length_toList]; exact hd9
    go_wp2_with fail
    go_loopw [53] (fun s53 wr => ∃ (i : Nat) (f : Fs), i ≤ len ∧ i ≤ 100 ∧ s53 = .int .i64 i ∧ Hid (WF (i + 3) f) ∧ Hid (Held d.data.toList f) ∧ Hid (Own w wr p f)) (fun s53 _ => len - (intOf s53).toNat)
    case atStart => exact ⟨0, _, Nat.zero_le _, Nat.zero_le _, rfl, hw3, hhd, hO5H⟩
    case round =>
      obtain ⟨i, f, hi, hi2, rfl, hW, hHd, hOr⟩ := hrel
      clear hO5H hhd hw3
      by_cases hil : i < len
      · by_cases hk3 : i = 100
        · as_aux_lemma =>
            subst hk3
            obtain ⟨x, hx⟩ : ∃ x, cs[100]? = some x := ⟨_, List.getElem?_eq_getElem (by have := hlH.out; omega)⟩
            obtain ⟨b, off, rfl, hb, e0, e1, e2, e3, e4, e5⟩ := (hAH.out.below hOr.out.toBelow).at hx
            obtain ⟨WE, hWE⟩ : ∃ WE, wr.alloc (.cells #[.int .i64 x.q, .int .i64 x.N, .int .i64 x.M, .int .i64 x.K, .string x.s, .string x.t] 27) = WE := ⟨_, rfl⟩
            have hOE := Lib.hid (show Own w WE p f by rw [← hWE]; exact hOr.out.below (alB _ _))
            clear hx

            obtain ⟨I, hn, hdr, hst2⟩ := held_drop hHd.out
            have hs1 := hOE.out.statB hW.out (by omega) (Below.refl _ _) 2
            rw [show StatM f 2 = (stA 2 I, 0) by unfold StatM; rw [hn]] at hs1
            unfold stA at hs1
            obtain ⟨kd, hkd⟩ : ∃ z, I.kind = z := ⟨_, rfl⟩
            obtain ⟨sz, hsz⟩ : ∃ z, I.size = z := ⟨_, rfl⟩
            obtain ⟨md, hmd⟩ : ∃ z, I.mode = z := ⟨_, rfl⟩
            obtain ⟨lk, hlk⟩ : ∃ z, I.links = z := ⟨_, rfl⟩
            rw [hkd, hsz, hmd, hlk] at hs1
            rw [hlk] at hst2
            have hs1H := Lib.hid hs1
            have hdrH := Lib.hid hdr
            have hst2H := Lib.hid hst2
            clear hs1 hn hkd hsz hmd hlk hdr hst2
            go_wp2_with (rw [hWE])
            refine hs1H.out.mono ?_
            rintro e w6 ⟨rfl, hb6⟩
            obtain ⟨W7, hW7⟩ : ∃ W7, w6.alloc (.cells #[.int .i64 2, .int .i64 kd, .int .i64 md, .int .i64 lk, .int .i64 sz] 32) = W7 := ⟨_, rfl⟩
            obtain ⟨q7, hq7⟩ : ∃ q7, w6.heap.size = q7 := ⟨_, rfl⟩
            have hb6H := Lib.hid hb6
            have hA7 : Blk W7 q7 32 #[.int .i64 2, .int .i64 kd, .int .i64 md, .int .i64 lk, .int .i64 sz] := by rw [← hW7]; exact newB _ _ _ hq7
            have hb7 := Lib.hid (show Below WE.heap.size WE W7 by rw [← hW7]; exact hb6H.out.alloc hb6H.out.size _)
            have hdp := Lib.hid (hOE.out.callsX (F := 21) (args := #[.pointer (some ⟨p, 0, none⟩), .int .i64 2]) (R := fun e => e = .returned (.int .i64 (DropM f 2).1)) hb7.out (fun B sv ps h1 => drop_any h1 (hW.out.fine (by omega)) 2))
            rw [hdrH.out] at hdp
            have hA7H := Lib.hid hA7
            have hq7l : q7 < W7.heap.size := hA7.lt
            have hq7g : WE.heap.size ≤ q7 := by rw [← hq7]; exact hb6.size
            clear hb6 hA7
            go_wp2_with (first | rw [hW7] | rw [hq7])
            refine hdp.out.mono ?_
            rintro e w8 ⟨rfl, hO8, hH8⟩
            have hA8 : Blk w8 q7 32 #[.int .i64 2, .int .i64 kd, .int .i64 md, .int .i64 lk, .int .i64 sz] := (hH8.block q7 hq7g hq7l).trans hA7H.out
            have hs2 := hO8.statB (drop_wf hW.out 2) (by omega) (Below.refl _ _) 2
            obtain ⟨sA, hsA⟩ : ∃ sA, (StatM (DropM f 2).2 2).1 = sA := ⟨_, rfl⟩
            rw [hst2H.out, hsA] at hs2
            have hs2H := Lib.hid hs2
            have hO8H := Lib.hid hO8
            have hA8H := Lib.hid hA8
            clear hs2 hO8 hA8 hH8 hsA
            go_wp2_with fail
            refine hs2H.out.mono ?_
            rintro e w9 ⟨rfl, hb9⟩
            have m3 : w9.cell? ⟨q7, 3, none⟩ = some (.int .i64 lk) := (blk_beneath hA8H.out hb9).cell 3
            have hbF := Lib.hid ((hO8H.out.below hb9).toBelow)
            clear hb9
            by_cases hlk0 : lk = 0
            · subst hlk0
              rw [if_pos rfl]
              go_wp2
              go_ret
              exact ⟨by simp, hbF.out⟩
            · rw [if_neg hlk0]
              have xl : decide (((lk : Nat) : Int) > 0) = true := by simp; omega
              go_wp2
              go_ret
              exact ⟨by simp; omega, hbF.out⟩
        · have hk5 : ((i : Int) == 100) = false := by simp; omega
          obtain ⟨x, hx⟩ : ∃ x, cs[i]? = some x := ⟨_, List.getElem?_eq_getElem (by have := hlH.out; omega)⟩
          obtain ⟨b, off, rfl, hb, e0, e1, e2, e3, e4, e5⟩ := (hAH.out.below hOr.out.toBelow).at hx
          obtain ⟨q, N, M, K, s, t⟩ := x
          dsimp only at e0 e1 e2 e3 e4 e5
          have hxm := List.mem_of_getElem? hx
          have hxb := hBH.out _ hxm
          have hxs := (hSH.out _ hxm)
          obtain ⟨k1, k2, k3, k4, k6, k7⟩ := hxb
          dsimp only at k1 k2 k3 k4 k6 k7 hxs
          have k9 : t.size ≤ 9000000000000000000 := by have := hxs.2; have := reachBytes_lt; omega
          have hc5 : i + 3 ≤ 5000 := by omega
          obtain ⟨q0, hq0⟩ : ∃ q0, wr.heap.size = q0 := ⟨_, rfl⟩
          obtain ⟨W1, hW1⟩ : ∃ W1, wr.alloc (.cells #[.int .i64 q, .int .i64 N, .int .i64 M, .int .i64 K, .string s, .string t] 27) = W1 := ⟨_, rfl⟩
          have hb1 : Below wr.heap.size wr W1 := by rw [← hW1]; exact alB _ _
          have hC1 : Blk W1 q0 27 #[.int .i64 q, .int .i64 N, .int .i64 M, .int .i64 K, .string s, .string t] := by rw [← hW1]; exact newB _ _ _ hq0
          have d0 : W1.cell? ⟨q0, 0, none⟩ = some (.int .i64 q) := hC1.cell 0
          have d1 : W1.cell? ⟨q0, 1, none⟩ = some (.int .i64 N) := hC1.cell 1
          have d2 : W1.cell? ⟨q0, 2, none⟩ = some (.int .i64 M) := hC1.cell 2
          have d3 : W1.cell? ⟨q0, 3, none⟩ = some (.int .i64 K) := hC1.cell 3
          have d4 : W1.cell? ⟨q0, 4, none⟩ = some (.string s) := hC1.cell 4
          have d5 : W1.cell? ⟨q0, 5, none⟩ = some (.string t) := hC1.cell 5
          have hb1H := Lib.hid hb1
          have hO1 := Lib.hid (hOr.out.below hb1)
          have hxH := Lib.hid hx
          have hK := Lib.hid (show s.size ≤ maxLen ∧ t.size ≤ maxLen ∧ t.size ≤ 9000000000000000000 from ⟨k1, k2, k9⟩)
          clear hx hb1 hxm hxs k1 k2 k9 hC1
          go_upto_region 14 with (first | rw [hW1] | rw [hq0])
          go_cut [83] (fun s83 wx => s83 = .bool (decide (N = 2 ∧ (q = 8 ∨ q = 9 ∨ q = 13 ∨ q = 14))) ∧ W1 = wx)
          case first =>
            by_cases z : N = 2
            · subst z
              by_cases z1 : q = 8
              · subst z1
                go_wp2
                go_meet
                exact ⟨by simp, rfl⟩
              · have y1 : (q == 8) = false := by simpa using z1
                by_cases z2 : q = 9
                · subst z2
                  go_wp2
                  go_meet
                  exact ⟨by simp, rfl⟩
                · have y2 : (q == 9) = false := by simpa using z2
                  by_cases z3 : q = 13
                  · subst z3
                    go_wp2
                    go_meet
                    exact ⟨by simp, rfl⟩
                  · have y3 : (q == 13) = false := by simpa using z3
                    by_cases z4 : q = 14
                    · subst z4
                      go_wp2
                      go_meet
                      exact ⟨by simp, rfl⟩
                    · have y4 : (q == 14) = false := by simpa using z4
                      go_wp2
                      go_meet
                      exact ⟨by simp [z1, z2, z3, z4], rfl⟩
            · have y0 : (N == 2) = false := by simpa using z
              go_wp2
              go_meet
              exact ⟨by simp [z], rfl⟩
          case rest =>
            obtain ⟨rfl, rfl⟩ := hcut
            by_cases hskip : N = 2 ∧ (q = 8 ∨ q = 9 ∨ q = 13 ∨ q = 14)
            · rw [decide_eq_true hskip]
              go_wp2_with fail
              go_roundw
              case rel => exact ⟨i + 1, f, by omega, by omega, by go_num, Lib.hid (hW.out.mono (by omega)), hHd, hO1⟩
              case measure => simp [intOf]; omega
            · rw [decide_eq_false hskip]
              have hst := Lib.hid (held_step hW.out hHd.out q N M K s t hskip)
              have hwf := Lib.hid (step_wf hW.out q N M K s t)
              have hask := Lib.hid (hO1.out.askX hW.out hc5 (Below.refl _ _) q N M K s t hK.out.1 hK.out.2.1 hK.out.2.2)
              go_wp2_with fail
              refine hask.out.mono ?_
              rintro E w5 ⟨⟨nn, xx, s0, s1, s2, s3, s4, yy, rfl⟩, hO5, _⟩
              have hrd := hO5.readB hwf.out (by omega) (Below.refl _ _) 2 0 2000
              rw [held_read hst.out hdl] at hrd
              have hO5H := Lib.hid hO5
              have hrdH := Lib.hid hrd
              clear hO5 hrd hask
              go_wp2_with fail
              refine hrdH.out.mono ?_
              rintro e w6 ⟨rfl, hb6⟩
              have hO6 := Lib.hid (hO5H.out.below hb6)
              have xd : ((⟨d.data.toList.toArray⟩ : ByteArray).toList != d.toList) = false := by simp
              clear hb6
              go_wp2_with fail
              go_roundw
              case rel => exact ⟨i + 1, _, by omega, by omega, by go_num, Lib.hid (hwf.out.mono (by omega)), hst, hO6⟩
              case measure => simp [intOf]; omega
      · obtain rfl : i = len := by omega
        as_aux_lemma =>
          obtain ⟨WE, rfl⟩ : ∃ WE, WE = wr := ⟨_, rfl⟩
          have hOE := Lib.hid (show Own w WE p f from hOr.out)

          obtain ⟨I, hn, hdr, hst2⟩ := held_drop hHd.out
          have hs1 := hOE.out.statB hW.out (by omega) (Below.refl _ _) 2
          rw [show StatM f 2 = (stA 2 I, 0) by unfold StatM; rw [hn]] at hs1
          unfold stA at hs1
          obtain ⟨kd, hkd⟩ : ∃ z, I.kind = z := ⟨_, rfl⟩
          obtain ⟨sz, hsz⟩ : ∃ z, I.size = z := ⟨_, rfl⟩
          obtain ⟨md, hmd⟩ : ∃ z, I.mode = z := ⟨_, rfl⟩
          obtain ⟨lk, hlk⟩ : ∃ z, I.links = z := ⟨_, rfl⟩
          rw [hkd, hsz, hmd, hlk] at hs1
          rw [hlk] at hst2
          have hs1H := Lib.hid hs1
          have hdrH := Lib.hid hdr
          have hst2H := Lib.hid hst2
          clear hs1 hn hkd hsz hmd hlk hdr hst2
          go_wp2_with fail
          refine hs1H.out.mono ?_
          rintro e w6 ⟨rfl, hb6⟩
          obtain ⟨W7, hW7⟩ : ∃ W7, w6.alloc (.cells #[.int .i64 2, .int .i64 kd, .int .i64 md, .int .i64 lk, .int .i64 sz] 32) = W7 := ⟨_, rfl⟩
          obtain ⟨q7, hq7⟩ : ∃ q7, w6.heap.size = q7 := ⟨_, rfl⟩
          have hb6H := Lib.hid hb6
          have hA7 : Blk W7 q7 32 #[.int .i64 2, .int .i64 kd, .int .i64 md, .int .i64 lk, .int .i64 sz] := by rw [← hW7]; exact newB _ _ _ hq7
          have hb7 := Lib.hid (show Below WE.heap.size WE W7 by rw [← hW7]; exact hb6H.out.alloc hb6H.out.size _)
          have hdp := Lib.hid (hOE.out.callsX (F := 21) (args := #[.pointer (some ⟨p, 0, none⟩), .int .i64 2]) (R := fun e => e = .returned (.int .i64 (DropM f 2).1)) hb7.out (fun B sv ps h1 => drop_any h1 (hW.out.fine (by omega)) 2))
          rw [hdrH.out] at hdp
          have hA7H := Lib.hid hA7
          have hq7l : q7 < W7.heap.size := hA7.lt
          have hq7g : WE.heap.size ≤ q7 := by rw [← hq7]; exact hb6.size
          clear hb6 hA7
          go_wp2_with (first | rw [hW7] | rw [hq7])
          refine hdp.out.mono ?_
          rintro e w8 ⟨rfl, hO8, hH8⟩
          have hA8 : Blk w8 q7 32 #[.int .i64 2, .int .i64 kd, .int .i64 md, .int .i64 lk, .int .i64 sz] := (hH8.block q7 hq7g hq7l).trans hA7H.out
          have hs2 := hO8.statB (drop_wf hW.out 2) (by omega) (Below.refl _ _) 2
          obtain ⟨sA, hsA⟩ : ∃ sA, (StatM (DropM f 2).2 2).1 = sA := ⟨_, rfl⟩
          rw [hst2H.out, hsA] at hs2
          have hs2H := Lib.hid hs2
          have hO8H := Lib.hid hO8
          have hA8H := Lib.hid hA8
          clear hs2 hO8 hA8 hH8 hsA
          go_wp2_with fail
          refine hs2H.out.mono ?_
          rintro e w9 ⟨rfl, hb9⟩
          have m3 : w9.cell? ⟨q7, 3, none⟩ = some (.int .i64 lk) := (blk_beneath hA8H.out hb9).cell 3
          have hbF := Lib.hid ((hO8H.out.below hb9).toBelow)
          clear hb9
          by_cases hlk0 : lk = 0
          · subst hlk0
            rw [if_pos rfl]
            go_wp2
            go_ret
            exact ⟨by simp, hbF.out⟩
          · rw [if_neg hlk0]
            have xl : decide (((lk : Nat) : Int) > 0) = true := by simp; omega
            go_wp2
            go_ret
            exact ⟨by simp; omega, hbF.out⟩
end Go.Proofs.Ytohgecmbkjienaa
