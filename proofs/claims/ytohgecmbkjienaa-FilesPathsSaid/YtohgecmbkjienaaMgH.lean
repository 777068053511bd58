/- A file that is held keeps its bytes: as plain data. No condition. -/
import Derived.Test.YtohgecmbkjienaaMgD
namespace Go.Proofs.Ytohgecmbkjienaa
open Go.RowKit Go.Shelf Go.PlainAid
set_option linter.unusedVariables false
set_option linter.unusedSimpArgs false
def HP (dt : List UInt8) (I : Ino) : Prop := I.kind = 1 ∧ I.data = dt ∧ I.holds = 1
def Held (dt : List UInt8) (f : Fs) : Prop := ∃ I, f[1]? = some (some I) ∧ HP dt I
section
variable {dt : List UInt8} {f : Fs}
theorem held_set (h : Held dt f) {i : Nat} {I I' : Ino} (hi : f[i]? = some (some I)) (k : i = 1 → HP dt I → HP dt I') : Held dt (f.set i (some I')) := by
  obtain ⟨J, hJ, hp⟩ := h
  by_cases e : i = 1
  · subst e
    rw [hi] at hJ
    cases hJ
    exact ⟨I', List.getElem?_set_self (List.getElem?_eq_some_iff.1 hi).1, k rfl hp⟩
  · exact ⟨J, by rw [List.getElem?_set_ne e]; exact hJ, hp⟩
theorem held_ents (h : Held dt f) (n : Nat) (g : Ents → Ents) : Held dt (setEnts f (n + 1) g) := by
  cases hn : node f ((n + 1 : Nat) : Int) with
  | none =>
    unfold setEnts
    rw [hn]
    exact h
  | some I =>
    obtain ⟨i, e, hi⟩ := nat_node hn
    obtain rfl : i = n := by omega
    rw [setEnts_at hi]
    exact held_set h hi (fun _ h => h)
theorem held_links (h : Held dt f) (n : Nat) (g : Nat → Nat) : Held dt (setLinks f (n + 1) g) := by
  cases hn : node f ((n + 1 : Nat) : Int) with
  | none =>
    unfold setLinks
    rw [hn]
    exact h
  | some I =>
    obtain ⟨i, e, hi⟩ := nat_node hn
    obtain rfl : i = n := by omega
    rw [setLinks_at hi]
    exact held_set h hi (fun _ h => h)
theorem held_rel (h : Held dt f) (n : Nat) : Held dt (relM f (n + 1)) := by
  cases hn : node f ((n + 1 : Nat) : Int) with
  | none =>
    unfold relM
    rw [hn]
    exact h
  | some I =>
    obtain ⟨i, e, hi⟩ := nat_node hn
    obtain rfl : i = n := by omega
    rw [relM_at hi]
    split
    · rename_i k
      obtain ⟨J, hJ, hp⟩ := h
      have hne : i ≠ 1 := fun e => by
        subst e
        rw [hi] at hJ
        cases hJ
        have := hp.2.2
        omega
      exact ⟨J, by rw [List.getElem?_set_ne hne]; exact hJ, hp⟩
    · exact h
theorem held_mod (h : Held dt f) (n : Int) (g : Ino → Ino) (k : n ≠ 2 ∨ ∀ I, HP dt I → HP dt (g I)) : Held dt (modN f n g) := by
  cases hn : node f n with
  | none =>
    unfold modN
    rw [hn]
    exact h
  | some I =>
    obtain ⟨i, rfl, _, hi⟩ := node_some hn
    rw [modN_at hi]
    exact held_set h hi (fun e hp => by
      rcases k with k | k
      · omega
      · exact k I hp)
theorem held_new (h : Held dt f) (I : Ino) : Held dt (putNew f I) := by
  obtain ⟨J, hJ, hp⟩ := h
  refine ⟨J, ?_, hp⟩
  rw [putNew_get, if_neg (fun e => ?_)]
  · exact hJ
  · by_cases hlt : free f < f.length
    · have := free_get f hlt
      rw [← e, hJ] at this
      cases this
    · have := (free_all f hlt).1
      have := (List.getElem?_eq_some_iff.1 hJ).1
      omega
theorem held_make (h : Held dt f) (n : Nat) (x : ByteArray) (I : Ino) : Held dt (makeM f (n + 1) x I).2.2 := by
  unfold makeM
  split
  · exact h
  · split
    · exact h
    · exact held_ents (held_new h { I with links := 1 }) n (fun l => addM l x (free f + 1))
theorem held_unlink (h : Held dt f) (n : Nat) (x : ByteArray) : Held dt (unlinkM f (n + 1) x) := by
  unfold unlinkM
  split
  · exact h
  · rename_i I hI
    rcases Nat.eq_zero_or_pos (lookM I.ents x) with e | e
    · rw [e]
      have h1 := held_ents h n (fun l => remM l x)
      have h2 : setLinks (setEnts f (n + 1) fun l => remM l x) 0 (· - 1) = setEnts f (n + 1) fun l => remM l x := by
        unfold setLinks
        rw [show node (setEnts f (n + 1) fun l => remM l x) ((0 : Nat) : Int) = none from rfl]
      rw [h2]
      have h3 : relM (setEnts f (n + 1) fun l => remM l x) 0 = setEnts f (n + 1) fun l => remM l x := by
        unfold relM
        rw [show node (setEnts f (n + 1) fun l => remM l x) ((0 : Nat) : Int) = none from rfl]
      rw [h3]
      exact h1
    · obtain ⟨j, hj⟩ : ∃ j, lookM I.ents x = j + 1 := ⟨lookM I.ents x - 1, by omega⟩
      rw [hj]
      exact held_rel (held_links (held_ents h n _) j _) j
theorem ahead_pos {dir : Int} {s : ByteArray} (h : (aheadM f dir s).2.2 = 0) : ∃ i : Nat, (aheadM f dir s).1.toNat = i + 1 := by
  obtain ⟨D, hD, _⟩ := ahead_live h
  obtain ⟨i, e, _, _⟩ := node_some hD
  exact ⟨i, by omega⟩
theorem named_pos {dir : Int} {s : ByteArray} (hcl : Closed f) (h : (namedM f dir s).2.2.2 = 0) : ∃ i j : Nat, (namedM f dir s).1.toNat = i + 1 ∧ (namedM f dir s).2.2.1 = j + 1 := by
  obtain ⟨i, D, j, J, x, he, _⟩ := named_ok hcl h
  rw [he]
  exact ⟨i, j, by dsimp only; omega, rfl⟩
set_option maxHeartbeats 4000000 in
theorem held_step {c : Nat} (hw : WF c f) (h : Held dt f) (q N M K : Int) (s t : ByteArray) (hN : ¬ (N = 2 ∧ (q = 8 ∨ q = 9 ∨ q = 13 ∨ q = 14))) : Held dt (stepF f q N M K s t) := by
  have hcl := hw.closed
  unfold stepF
  split
  · unfold CreateM
    split
    · exact h
    · split
      · exact h
      · split
        · exact h
        · obtain ⟨i, hi⟩ := ahead_pos (f := f) (dir := N) (s := s) (by omega)
          rw [hi]
          exact held_make h i _ _
  · split
    · unfold MkdirM
      split
      · exact h
      · split
        · exact h
        · obtain ⟨i, hi⟩ := ahead_pos (f := f) (dir := N) (s := s) (by omega)
          rw [hi]
          exact held_make h i _ _
    · split
      · unfold UnlinkM
        split
        · exact h
        · obtain ⟨i, j, hi, hj⟩ := named_pos (f := f) (dir := N) (s := s) hcl (by omega)
          rw [hi]
          split
          · split
            · exact h
            · split
              · exact h
              · split
                · exact held_unlink h i _
                · exact h
          · exact h
      · split
        · unfold RmdirM
          split
          · exact h
          · obtain ⟨i, j, hi, hj⟩ := named_pos (f := f) (dir := N) (s := s) hcl (by omega)
            rw [hi]
            split
            · split
              · split
                · exact h
                · split
                  · exact held_unlink h i _
                  · exact h
              · exact h
            · exact h
        · split
          · unfold LinkM
            split
            · exact h
            · split
              · exact h
              · split
                · exact h
                · split
                  · exact h
                  · split
                    · exact h
                    · rename_i h1 _ h2 _ _
                      obtain ⟨i, hi⟩ := ahead_pos (f := f) (dir := N) (s := t) (by omega)
                      obtain ⟨J, hJ⟩ := Option.isSome_iff_exists.1 (walk_live hcl (dir := N) (s := s) (by omega))
                      obtain ⟨j, ej, _, hj⟩ := node_some hJ
                      rw [hi, ej, show ((j : Int) + 1).toNat = j + 1 by omega]
                      exact held_links (held_ents h i _) j _
          · split
            · unfold RenameM
              split
              · exact h
              · obtain ⟨i, j, hi, hj⟩ := named_pos (f := f) (dir := N) (s := s) hcl (by omega)
                rw [hi, hj]
                split
                · unfold ren1
                  split
                  · exact h
                  · split
                    · exact h
                    · rename_i h2
                      obtain ⟨e, he⟩ := ahead_pos (f := f) (dir := N) (s := t) (by omega)
                      rw [he]
                      split
                      · exact h
                      · unfold ren2
                        split
                        · exact h
                        · split
                          · exact h
                          · split
                            · unfold ren3
                              split
                              · exact h
                              · split
                                · exact h
                                · unfold renM
                                  refine held_mod (held_ents (held_ents ?_ i _) e _) _ _ (.inr fun I hI => hI)
                                  split
                                  · exact h
                                  · exact held_unlink h e _
                            · exact h
                · exact h
            · split
              · unfold WriteM
                split
                · exact h
                · split
                  · exact h
                  · split
                    · exact h
                    · split
                      · exact h
                      · split
                        · exact h
                        · exact held_mod h N _ (.inl (by omega))
              · split
                · unfold TruncM
                  split
                  · exact h
                  · split
                    · exact h
                    · split
                      · exact h
                      · split
                        · exact h
                        · exact held_mod h N _ (.inl (by omega))
                · split
                  · unfold ChmodM
                    split
                    · exact h
                    · exact held_mod h N _ (.inr fun I hI => hI)
                  · split
                    · unfold HoldM
                      split
                      · exact h
                      · exact held_mod h N _ (.inl (by omega))
                    · split
                      · unfold DropM
                        split
                        · exact h
                        · rename_i I hI
                          split
                          · exact h
                          · obtain ⟨i, e, _, _⟩ := node_some hI
                            have hm := held_mod h N (fun I => { I with holds := I.holds - 1 }) (.inl (by omega))
                            rw [show N.toNat = i + 1 by omega]
                            exact held_rel hm i
                      · exact h
end
end Go.Proofs.Ytohgecmbkjienaa
/- All directories may be searched: as plain data. No condition. -/
namespace Go.Proofs.Ytohgecmbkjienaa
open Go.RowKit Go.Shelf Go.PlainAid
set_option linter.unusedVariables false
set_option linter.unusedSimpArgs false
def DX (f : Fs) : Prop := ∀ (i : Nat) I, f[i]? = some (some I) → I.kind = 2 → I.mode = 493
theorem mode_493 : modeM 493 = 493 := by kernel_rfl
theorem may_493 : mayM 493 1 = true := by kernel_rfl
section
variable {f : Fs}
theorem dx_set (h : DX f) (i : Nat) {o : Option Ino} (k : ∀ I, o = some I → I.kind = 2 → I.mode = 493) : DX (f.set i o) := fun m M hm hk => by
  rw [List.getElem?_set] at hm
  split at hm
  · split at hm
    · exact k M (Option.some.inj hm) hk
    · cases hm
  · exact h m M hm hk
theorem dx_ents (h : DX f) (n : Nat) (g : Ents → Ents) : DX (setEnts f n g) := by
  unfold setEnts
  split
  · exact h
  · rename_i I hI
    obtain ⟨i, rfl, hi⟩ := nat_node hI
    exact dx_set h _ (fun J hJ hk => by
      cases hJ
      exact h i I hi hk)
theorem dx_links (h : DX f) (n : Nat) (g : Nat → Nat) : DX (setLinks f n g) := by
  unfold setLinks
  split
  · exact h
  · rename_i I hI
    obtain ⟨i, rfl, hi⟩ := nat_node hI
    exact dx_set h _ (fun J hJ hk => by
      cases hJ
      exact h i I hi hk)
theorem dx_rel (h : DX f) (n : Nat) : DX (relM f n) := by
  unfold relM
  split
  · split
    · exact dx_set h _ (fun J hJ => by cases hJ)
    · exact h
  · exact h
theorem dx_mod (h : DX f) (n : Int) (g : Ino → Ino) (k : ∀ I, (g I).kind = I.kind ∧ (g I).mode = I.mode) : DX (modN f n g) := by
  unfold modN
  split
  · exact h
  · rename_i I hI
    obtain ⟨i, rfl, _, hi⟩ := node_some hI
    exact dx_set h _ (fun J hJ hk => by
      cases hJ
      rw [(k I).1] at hk
      rw [(k I).2]
      exact h i I hi hk)
theorem dx_new (h : DX f) (I : Ino) (k : I.kind = 2 → I.mode = 493) : DX (putNew f I) := fun m M hm hk => by
  rw [putNew_get] at hm
  split at hm
  · cases hm
    exact k hk
  · exact h m M hm hk
theorem dx_make (h : DX f) (n : Nat) (x : ByteArray) (I : Ino) (k : I.kind = 2 → I.mode = 493) : DX (makeM f n x I).2.2 := by
  unfold makeM
  split
  · exact h
  · split
    · exact h
    · exact dx_ents (dx_new h { I with links := 1 } k) n (fun l => addM l x (free f + 1))
theorem dx_unlink (h : DX f) (n : Nat) (x : ByteArray) : DX (unlinkM f n x) := by
  unfold unlinkM
  split
  · exact h
  · exact dx_rel (dx_links (dx_ents h n _) _ _) _
set_option maxHeartbeats 4000000 in
theorem dx_step (h : DX f) (q N M K : Int) (s t : ByteArray) (h1 : q ≠ 10) (h2 : q = 2 → M = 493) : DX (stepF f q N M K s t) := by
  unfold stepF
  split
  · unfold CreateM
    split
    · exact h
    · split
      · exact h
      · split
        · exact h
        · exact dx_make h _ _ _ (fun k => by cases k)
  · split
    · rename_i e
      rw [h2 e]
      unfold MkdirM
      split
      · exact h
      · split
        · exact h
        · exact dx_make h _ _ _ (fun _ => mode_493)
    · split
      · unfold UnlinkM
        split
        · exact h
        · split
          · split
            · exact h
            · split
              · exact h
              · split
                · exact dx_unlink h _ _
                · exact h
          · exact h
      · split
        · unfold RmdirM
          split
          · exact h
          · split
            · split
              · split
                · exact h
                · split
                  · exact dx_unlink h _ _
                  · exact h
              · exact h
            · exact h
        · split
          · unfold LinkM
            split
            · exact h
            · split
              · exact h
              · split
                · exact h
                · split
                  · exact h
                  · split
                    · exact h
                    · exact dx_links (dx_ents h _ _) _ _
          · split
            · unfold RenameM
              split
              · exact h
              · split
                · unfold ren1
                  split
                  · exact h
                  · split
                    · exact h
                    · split
                      · exact h
                      · unfold ren2
                        split
                        · exact h
                        · split
                          · exact h
                          · split
                            · unfold ren3
                              split
                              · exact h
                              · split
                                · exact h
                                · unfold renM
                                  refine dx_mod (dx_ents (dx_ents ?_ _ _) _ _) _ _ (fun I => ⟨rfl, rfl⟩)
                                  split
                                  · exact h
                                  · exact dx_unlink h _ _
                            · exact h
                · exact h
            · split
              · unfold WriteM
                split
                · exact h
                · split
                  · exact h
                  · split
                    · exact h
                    · split
                      · exact h
                      · split
                        · exact h
                        · exact dx_mod h N _ (fun I => ⟨rfl, rfl⟩)
              · split
                · unfold TruncM
                  split
                  · exact h
                  · split
                    · exact h
                    · split
                      · exact h
                      · split
                        · exact h
                        · exact dx_mod h N _ (fun I => ⟨rfl, rfl⟩)
                · split
                  · unfold HoldM
                    split
                    · exact h
                    · exact dx_mod h N _ (fun I => ⟨rfl, rfl⟩)
                  · split
                    · unfold DropM
                      split
                      · exact h
                      · split
                        · exact h
                        · exact dx_rel (dx_mod h N (fun I => { I with holds := I.holds - 1 }) (fun I => ⟨rfl, rfl⟩)) _
                    · exact h
theorem dx_may (h : DX f) {i : Nat} {I : Ino} (hi : f[i]? = some (some I)) (hd : I.isDir = true) : I.may 1 = true := by
  have := h i I hi (by unfold Ino.isDir at hd; simpa using hd)
  unfold Ino.may
  rw [this]
  exact may_493
theorem new_dx : DX newM := fun i I hi hk => by
  cases i with
  | succ i => simp [newM] at hi
  | zero =>
    obtain rfl : (⟨2, 493, 1, 0, [], [], 1⟩ : Ino) = I := by simpa [newM] using hi
    rfl
end
end Go.Proofs.Ytohgecmbkjienaa
/- Paths lead where they should; entries stand in order: as plain data. No condition. -/
namespace Go.Proofs.Ytohgecmbkjienaa
open Go.RowKit Go.Shelf Go.PlainAid
set_option linter.unusedVariables false
set_option linter.unusedSimpArgs false
abbrev bl (x : ByteArray) : List UInt8 := x.data.toList
theorem bl_back (x : ByteArray) : (⟨(bl x).toArray⟩ : ByteArray) = x := by simp [bl]
theorem bl_app (x y : ByteArray) : bl (x ++ y) = bl x ++ bl y := by unfold bl; rw [ByteArray.data_append, Array.toList_append]
theorem bl_len (x : ByteArray) : (bl x).length = x.size := by unfold bl; rw [Array.length_toList]; rfl
theorem bl_inj {x y : ByteArray} (h : bl x = bl y) : x = y := by rw [← bl_back x, ← bl_back y, h]
theorem bl_ne {x : ByteArray} (h : nameOK x) : bl x ≠ [] := fun e => by
  have h1 := bl_len x
  rw [e] at h1
  have h2 := h.1
  simp at h1
  omega
def sl (l : List ByteArray) : List UInt8 := l.flatMap (fun x => 47 :: bl x)
theorem pg_app : ∀ (x acc rest : List UInt8), ¬ 47 ∈ x → piecesGo acc (x ++ rest) = piecesGo (acc ++ x) rest
  | [], acc, rest, _ => by simp
  | b :: x, acc, rest, h => by
    have hb : b ≠ 47 := fun e => h (by rw [e]; exact List.mem_cons_self ..)
    have ih := pg_app x (acc ++ [b]) rest (fun h2 => h (List.mem_cons_of_mem _ h2))
    rw [List.cons_append, piecesGo, if_neg hb, ih]
    simp
theorem pg_sl : ∀ (l : List ByteArray) (acc : List UInt8), acc ≠ [] → (∀ x ∈ l, nameOK x) → piecesGo acc (sl l) = acc :: l.map bl
  | [], acc, h, _ => by
    show piecesGo acc [] = _
    unfold piecesGo
    rw [if_neg h]
    rfl
  | x :: l, acc, h, hn => by
    have hx := hn x (List.mem_cons_self ..)
    have e : sl (x :: l) = 47 :: (bl x ++ sl l) := by unfold sl; rw [List.flatMap_cons]; rfl
    have hx0 : bl x ≠ [] := bl_ne hx
    rw [e, piecesGo, if_pos rfl, if_neg h, pg_app _ _ _ hx.2.2.2.2, List.nil_append, pg_sl l (bl x) hx0 (fun y hy => hn y (List.mem_cons_of_mem _ hy)), List.map_cons]
theorem map_back (l : List ByteArray) : (l.map bl).map (fun l => (⟨l.toArray⟩ : ByteArray)) = l := by
  rw [List.map_map]
  refine (List.map_congr_left (fun x _ => ?_)).trans (List.map_id l)
  exact bl_back x
/-- A way without a / ahead. -/
theorem pieces_rel {s x : ByteArray} {l : List ByteArray} (h : bl s = bl x ++ sl l) (hx : nameOK x) (hl : ∀ y ∈ l, nameOK y) : pieces s = x :: l := by
  have hx0 : bl x ≠ [] := bl_ne hx
  have h2 : s.data.toList = bl x ++ sl l := h
  unfold pieces
  rw [h2, pg_app _ _ _ hx.2.2.2.2, List.nil_append, pg_sl l _ hx0 hl]
  show (((x :: l).map bl).map _) = _
  exact map_back (x :: l)
/-- A way from the root. -/
theorem pieces_abs {s : ByteArray} {l : List ByteArray} (h : bl s = sl l) (hl : ∀ y ∈ l, nameOK y) : pieces s = l := by
  cases l with
  | nil =>
    have h2 : s.data.toList = [] := h
    unfold pieces
    rw [h2]
    rfl
  | cons x l =>
    have hx := hl x (List.mem_cons_self ..)
    have hx0 : bl x ≠ [] := bl_ne hx
    have e : sl (x :: l) = 47 :: (bl x ++ sl l) := by unfold sl; rw [List.flatMap_cons]; rfl
    have h2 : s.data.toList = 47 :: (bl x ++ sl l) := by rw [← e]; exact h
    unfold pieces
    rw [h2, piecesGo, if_pos rfl, if_pos rfl, pg_app _ _ _ hx.2.2.2.2, List.nil_append, pg_sl l _ hx0 (fun y hy => hl y (List.mem_cons_of_mem _ hy))]
    show (((x :: l).map bl).map _) = _
    exact map_back (x :: l)
theorem sl_last (l : List ByteArray) (acc : List UInt8) (h0 : acc ≠ []) (ha : acc.getLast? ≠ some 47) (hl : ∀ y ∈ l, nameOK y) : (acc ++ sl l).getLast? ≠ some 47 := by
  induction l generalizing acc with
  | nil =>
    rw [show sl [] = [] from rfl, List.append_nil]
    exact ha
  | cons x l ih =>
    have hx := hl x (List.mem_cons_self ..)
    have e : sl (x :: l) = (47 :: bl x) ++ sl l := by unfold sl; rw [List.flatMap_cons]
    rw [e, ← List.append_assoc]
    refine ih _ (by simp) (fun h => ?_) (fun y hy => hl y (List.mem_cons_of_mem _ hy))
    have hx0 : bl x ≠ [] := bl_ne hx
    obtain ⟨t, b, ht⟩ : ∃ t b, bl x = t ++ [b] := ⟨(bl x).dropLast, (bl x).getLast hx0, (List.dropLast_concat_getLast hx0).symm⟩
    have h2 : acc ++ 47 :: bl x = (acc ++ 47 :: t) ++ [b] := by rw [ht]; simp
    rw [h2, List.getLast?_append] at h
    simp at h
    exact hx.2.2.2.2 (by show 47 ∈ bl x; rw [ht, h]; simp)
section
variable {c : Nat} {f : Fs}
theorem step_in (hw : WF c f) (hx : DX f) {i : Nat} {D : Ino} (hi : f[i]? = some (some D)) (hd : D.isDir = true) {e : En} (he : e ∈ D.ents) : stepM f ((i : Int) + 1) e.1 = ((e.2 : Int), 0) := by
  have hk := hw.ino i D hi
  have hn := hk.name e he
  have hen : enterM f ((i : Int) + 1) = 0 := by
    unfold enterM
    rw [node_at hi]
    dsimp only
    rw [if_pos hd, if_pos (dx_may hx hi hd)]
  have hl := lookM_of hk.srt (x := e.1) (n := e.2) he
  have h2 := (hk.live e he).1
  unfold stepM
  rw [if_neg (fun h => h hen), node_at hi]
  dsimp only
  rw [if_neg hn.2.2.1, if_neg hn.2.2.2.1, if_neg (by have := hn.2.1; omega), hl, if_neg (by omega)]
theorem steps_cons {f : Fs} {n m : Int} {x : ByteArray} {l : List ByteArray} (h : stepM f n x = (m, 0)) : stepsM f n (x :: l) = stepsM f m l := by
  rw [stepsM, h, if_neg (fun h => h rfl)]
/-- A directory's way from the root. -/
theorem up_way (hw : WF c f) (hx : DX f) {d n : Nat} (h : Deep f d n) : LD f n → ∃ l : List ByteArray, bl (upM f d n) = sl l ∧ (∀ y ∈ l, nameOK y) ∧ stepsM f 1 l = ((n : Int), 0) ∧ (d = 0 → l = []) ∧ (l = [] → d = 0) := by
  induction h with
  | root => exact fun _ => ⟨[], rfl, fun y hy => (nomatch hy), rfl, fun _ => rfl, fun _ => rfl⟩
  | up d n I h1 hn hd ih =>
    intro hl
    obtain ⟨hlp, m, P, z, hp, hP, hz⟩ := hw.ldUp hl h1 hn
    obtain ⟨l, k1, k2, k3, _, _⟩ := ih hlp
    have hPk := hw.ino m P hP
    have hPd := hw.isdir hP hz
    have hnm : (nameM P.ents n, n) ∈ P.ents := by
      rcases nameM_mem P.ents n with ⟨_, h2⟩ | h2
      · exact absurd rfl (h2 _ hz)
      · exact h2
    have hst := step_in hw hx hP hPd hnm
    dsimp only at hst
    refine ⟨l ++ [nameM P.ents n], ?_, fun y hy => ?_, ?_, fun h => (nomatch h), fun h => by simp at h⟩
    · rw [up_some hn, hp, entsAt_at hP, bl_app, bl_app, ← hp, k1]
      unfold sl
      rw [List.flatMap_append]
      simp [bl, slT]
    · rcases List.mem_append.1 hy with hy | hy
      · exact k2 y hy
      · rw [List.mem_singleton.1 hy]
        exact hPk.name _ hnm
    · have h3 : (stepsM f 1 l).2 = 0 := by rw [k3]
      rw [hp, show ((m + 1 : Nat) : Int) = (m : Int) + 1 by omega] at k3
      have h4 : stepM f (stepsM f 1 l).1 (nameM P.ents n) = ((n : Int), 0) := by rw [k3]; exact hst
      rw [steps_ok f _ l 1 h3 (by rw [h4]), h4]
/-- What Path answers leads there. -/
theorem path_leads (hw : WF c f) (hx : DX f) (n : Int) (h : (PathM f n).2 = 0) (h256 : (PathM f n).1.size ≤ 256) : WalkM f 1 (PathM f n).1 = (n, 0) := by
  obtain ⟨R, hR, hRd, hRl, _⟩ := hw.root
  unfold PathM at h h256 ⊢
  cases hn : node f n with
  | none => rw [hn] at h; cases h
  | some I =>
    rw [hn] at h h256
    dsimp only at h h256 ⊢
    obtain ⟨i, rfl, _, hi⟩ := node_some hn
    by_cases hd : I.isDir = true
    · rw [if_pos hd] at h h256 ⊢
      unfold WalkM
      rw [if_pos (by unfold isDir; rw [show (1 : Int) = ((0 : Nat) : Int) + 1 from rfl, node_at hR]; exact hRd)]
      by_cases h1 : ((i : Int) + 1) = 1
      · rw [if_pos h1]
        rw [h1]
        have hb : beginM 1 slT = (1, 0) := by decide
        have hp : pieces slT = [] := by decide
        unfold walkM
        rw [hb, hp]
        show (if slashed slT && !isDir f 1 then ((0 : Int), 20) else (1, 0)) = _
        rw [show isDir f 1 = true by unfold isDir; rw [show (1 : Int) = ((0 : Nat) : Int) + 1 from rfl, node_at hR]; exact hRd]
        simp
      · rw [if_neg h1] at h h256 ⊢
        by_cases h2 : I.links = 0
        · rw [if_pos h2] at h
          cases h
        · rw [if_neg h2] at h h256 ⊢
          rw [show ((i : Int) + 1).toNat = i + 1 by omega] at h h256 ⊢
          dsimp only at h256 ⊢
          have hdp := hw.dep hi hd h2
          obtain ⟨l, k1, k2, k3, k4, k5⟩ := up_way hw hx hdp ⟨i, I, rfl, hi, hd, by have := (hw.ino i I hi).one hd; omega⟩
          obtain ⟨d, hde⟩ : ∃ d, dep f (i + 1) = d := ⟨_, rfl⟩
          rw [hde] at hdp k1 k4 k5 h256 ⊢
          have hl0 : l ≠ [] := fun e => by
            have := k5 e
            subst this
            cases hdp
            exact h1 rfl
          obtain ⟨x, l', rfl⟩ : ∃ x l', l = x :: l' := by
            cases l with
            | nil => exact absurd rfl hl0
            | cons x l' => exact ⟨x, l', rfl⟩
          have e : sl (x :: l') = 47 :: (bl x ++ sl l') := by unfold sl; rw [List.flatMap_cons]; rfl
          obtain ⟨P, hP⟩ : ∃ P, upM f d (i + 1) = P := ⟨_, rfl⟩
          rw [hP] at k1 h256 ⊢
          have hsz : P.size ≠ 0 := fun h => by
            have := bl_len P
            rw [k1, e] at this
            simp at this
            omega
          have hb : beginM 1 P = (1, 0) := by
            unfold beginM
            rw [if_neg hsz, if_neg (by omega), if_pos (by show (bl P).head? = some 47; rw [k1, e]; rfl)]
          have hx1 := k2 x (List.mem_cons_self ..)
          have hsl : slashed P = false := by
            unfold slashed
            show ((bl P).getLast? == some 47) = false
            rw [k1]
            have h9 := sl_last (x :: l') [1] (by simp) (by decide) k2
            rw [e] at h9 ⊢
            have : ([1] ++ (47 :: (bl x ++ sl l')) : List UInt8).getLast? = (47 :: (bl x ++ sl l') : List UInt8).getLast? := by
              rw [List.singleton_append, List.getLast?_cons_cons]
            rw [this] at h9
            simpa using h9
          unfold walkM
          rw [hb, pieces_abs k1 k2, k3, hsl]
          simp
    · rw [if_neg hd] at h
      cases h
/-- What is told of the tree can be walked to. -/
theorem tree_way (hw : WF c f) (hx : DX f) : ∀ (d i : Nat) (D : Ino) (a : ByteArray), f[i]? = some (some D) → D.isDir = true → ∀ t ∈ treeM f d (i + 1) a, ∃ (x : ByteArray) (l : List ByteArray) (j : Nat) (J : Ino), f[j]? = some (some J) ∧ t = teOf t.path J ∧ bl t.path = bl a ++ (bl x ++ sl l) ∧ nameOK x ∧ (∀ y ∈ l, nameOK y) ∧ stepsM f ((i : Int) + 1) (x :: l) = ((j : Int) + 1, 0) ∧ x ∈ nms D.ents
  | 0, _, _, _, _, _, t, ht => by cases ht
  | d + 1, i, D, a, hi, hd, t, ht => by
    rw [treeM, entsAt_at hi] at ht
    obtain ⟨e, he, ht⟩ := List.mem_flatMap.1 ht
    have hk := hw.ino i D hi
    have hn := hk.name e he
    have hst := step_in hw hx hi hd he
    obtain ⟨h2, J, hJ⟩ := hk.live e he
    obtain ⟨j, hj⟩ : ∃ j, e.2 = j + 1 := ⟨e.2 - 1, by omega⟩
    rw [hj, Nat.add_sub_cancel] at hJ
    rw [hj, show ((j + 1 : Nat) : Int) = (j : Int) + 1 by omega] at hst
    have hem : e.1 ∈ nms D.ents := List.mem_map.2 ⟨e, he, rfl⟩
    unfold treeL at ht
    rw [hj, node_nat hJ] at ht
    dsimp only at ht
    rcases List.mem_cons.1 ht with rfl | ht
    · refine ⟨e.1, [], j, J, hJ, rfl, ?_, hn, fun y hy => (nomatch hy), ?_, hem⟩
      · show bl (a ++ e.1) = _
        rw [bl_app]
        simp [sl]
      · rw [steps_cons hst]
        rfl
    · split at ht
      · rename_i hJd
        obtain ⟨x, l, j', J', k1, k2, k3, k4, k5, k6, _⟩ := tree_way hw hx d j J (a ++ e.1 ++ slT) hJ hJd t ht
        refine ⟨e.1, x :: l, j', J', k1, k2, ?_, hn, fun y hy => ?_, ?_, hem⟩
        · rw [k3, bl_app, bl_app]
          unfold sl
          rw [List.flatMap_cons]
          simp [bl, slT]
        · rcases List.mem_cons.1 hy with rfl | hy
          · exact k4
          · exact k5 y hy
        · rw [steps_cons hst]
          exact k6
      · cases ht
/-- The way to an entry. -/
theorem entry_walk (hw : WF c f) (hx : DX f) {t : Te} (ht : t ∈ TreeM f) (h256 : t.path.size ≤ 256) : ∃ (j : Nat) (J : Ino), f[j]? = some (some J) ∧ t = teOf t.path J ∧ WalkM f 1 t.path = ((j : Int) + 1, 0) := by
  obtain ⟨R, hR, hRd, _⟩ := hw.root
  obtain ⟨x, l, j, J, k1, k2, k3, k4, k5, k6, _⟩ := tree_way hw hx 102 0 R ⟨#[]⟩ hR hRd t ht
  refine ⟨j, J, k1, k2, ?_⟩
  have h1 : bl t.path = bl x ++ sl l := by rw [k3]; rfl
  have hx0 : bl x ≠ [] := bl_ne k4
  obtain ⟨b, r, hb⟩ : ∃ b r, bl x = b :: r := by
    cases h : bl x with
    | nil => exact absurd h hx0
    | cons b r => exact ⟨b, r, rfl⟩
  have hb47 : b ≠ 47 := fun e => k4.2.2.2.2 (by show 47 ∈ bl x; rw [hb, e]; exact List.mem_cons_self ..)
  have hsz : t.path.size ≠ 0 := fun h => by
    have := bl_len t.path
    rw [h1, hb] at this
    simp at this
    omega
  have hbg : beginM 1 t.path = (1, 0) := by
    unfold beginM
    rw [if_neg hsz, if_neg (by omega)]
    split <;> rfl
  have hsl : slashed t.path = false := by
    unfold slashed
    show ((bl t.path).getLast? == some 47) = false
    rw [h1]
    have h9 := sl_last l (bl x) hx0 (fun h => by
      have := List.mem_of_getLast? h
      exact k4.2.2.2.2 this) k5
    simpa using h9
  unfold WalkM
  rw [if_pos (by unfold isDir; rw [show (1 : Int) = ((0 : Nat) : Int) + 1 from rfl, node_at hR]; exact hRd)]
  unfold walkM
  have k6' : stepsM f 1 (x :: l) = ((j : Int) + 1, 0) := k6
  rw [hbg, pieces_rel h1 k4 k5, k6', hsl]
  simp
end
end Go.Proofs.Ytohgecmbkjienaa
/- before: paths piece by piece; the tree is told in that order. Condition: the texts' sizes. -/
namespace Go.Proofs.Ytohgecmbkjienaa
open Go.RowKit Go.Shelf Go.PlainAid
set_option linter.unusedVariables false
set_option linter.unusedSimpArgs false
attribute [local go_sem] Oper.semAt_some
def ky (b : UInt8) : Int := if b = 47 then -1 else (b.toNat : Int)
def bf : List UInt8 → List UInt8 → Bool
  | [], [] => false
  | [], _ :: _ => true
  | _ :: _, [] => false
  | a :: l, b :: m => if ky a = ky b then bf l m else decide (ky a < ky b)
theorem ky_inj {a b : UInt8} (h : ky a = ky b) : a = b := by
  unfold ky at h
  split at h
  · split at h
    · rename_i h1 h2
      rw [h1, h2]
    · omega
  · split at h
    · omega
    · exact UInt8.toNat_inj.1 (by omega)
theorem bf_trans : ∀ {a b c : List UInt8}, bf a b = true → bf b c = true → bf a c = true
  | [], [], c, h, _ => by simp [bf] at h
  | [], _ :: _, [], _, h => by simp [bf] at h
  | [], _ :: _, _ :: _, _, _ => rfl
  | _ :: _, [], _, h, _ => by simp [bf] at h
  | _ :: _, _ :: _, [], _, h => by simp [bf] at h
  | x :: a, y :: b, z :: c, h, k => by
    unfold bf at h k ⊢
    by_cases h1 : ky x = ky y
    · rw [if_pos h1] at h
      by_cases h2 : ky y = ky z
      · rw [if_pos h2] at k
        rw [if_pos (h1.trans h2)]
        exact bf_trans h k
      · rw [if_neg h2] at k
        rw [if_neg (by omega)]
        have := of_decide_eq_true k
        exact decide_eq_true (by omega)
    · rw [if_neg h1] at h
      have h3 := of_decide_eq_true h
      by_cases h2 : ky y = ky z
      · rw [if_neg (by omega)]
        exact decide_eq_true (by omega)
      · rw [if_neg h2] at k
        have := of_decide_eq_true k
        rw [if_neg (by omega)]
        exact decide_eq_true (by omega)
theorem bf_app : ∀ (p a b : List UInt8), bf (p ++ a) (p ++ b) = bf a b
  | [], _, _ => rfl
  | x :: p, a, b => by
    rw [List.cons_append, List.cons_append, bf, if_pos rfl]
    exact bf_app p a b
theorem bf_pre (p : List UInt8) (x : UInt8) (l : List UInt8) : bf p (p ++ x :: l) = true := by
  have := bf_app p [] (x :: l)
  rw [List.append_nil] at this
  rw [this]
  rfl
theorem ky_slash {b : UInt8} (h : b ≠ 47) : 0 ≤ ky b ∧ ky b = (b.toNat : Int) := by
  unfold ky
  rw [if_neg h]
  exact ⟨by omega, rfl⟩
/-- Names in order, and whatever stands below them. -/
theorem bf_names : ∀ {x y u v : List UInt8}, ¬ 47 ∈ x → ¬ 47 ∈ y → x < y → (u = [] ∨ ∃ r, u = 47 :: r) → (v = [] ∨ ∃ r, v = 47 :: r) → bf (x ++ u) (y ++ v) = true
  | [], [], _, _, _, _, h, _, _ => absurd h (List.lt_irrefl _)
  | [], b :: m, u, v, _, hy, _, hu, _ => by
    have hb := (ky_slash (b := b) (fun e => hy (by rw [e]; exact List.mem_cons_self ..))).1
    rcases hu with rfl | ⟨r, rfl⟩
    · rfl
    · show bf (47 :: r) (b :: (m ++ v)) = true
      have h47 : ky 47 = -1 := rfl
      unfold bf
      rw [if_neg (by omega)]
      exact decide_eq_true (by omega)
  | a :: l, [], _, _, _, _, h, _, _ => absurd h (List.not_lt_nil _)
  | a :: l, b :: m, u, v, hx, hy, h, hu, hv => by
    have ha : a ≠ 47 := fun e => hx (by rw [e]; exact List.mem_cons_self ..)
    have hb : b ≠ 47 := fun e => hy (by rw [e]; exact List.mem_cons_self ..)
    have ka := (ky_slash ha).2
    have kb := (ky_slash hb).2
    rw [List.cons_append, List.cons_append, bf]
    rcases List.cons_lt_cons_iff.1 h with h1 | ⟨h1, h2⟩
    · have h3 : a.toNat < b.toNat := UInt8.lt_iff_toNat_lt.1 h1
      rw [if_neg (by omega)]
      exact decide_eq_true (by omega)
    · subst h1
      rw [if_pos rfl]
      exact bf_names (fun e => hx (List.mem_cons_of_mem _ e)) (fun e => hy (List.mem_cons_of_mem _ e)) h2 hu hv
def BfT (a b : Te) : Prop := bf (bl a.path) (bl b.path) = true
section
variable {c : Nat} {f : Fs}
theorem tree_shape (hw : WF c f) : ∀ (d i : Nat) (D : Ino) (a : ByteArray), f[i]? = some (some D) → ∀ (l : Ents), (∀ e ∈ l, e ∈ D.ents) → ∀ t ∈ l.flatMap (treeL f (treeM f d) a), ∃ e ∈ l, ∃ u, bl t.path = bl a ++ (bl e.1 ++ u) ∧ (u = [] ∨ ∃ r, u = 47 :: r)
  | d, i, D, a, hi, l, hl, t, ht => by
    obtain ⟨e, he, ht⟩ := List.mem_flatMap.1 ht
    refine ⟨e, he, ?_⟩
    have hk := hw.ino i D hi
    obtain ⟨h2, J, hJ⟩ := hk.live e (hl e he)
    obtain ⟨j, hj⟩ : ∃ j, e.2 = j + 1 := ⟨e.2 - 1, by omega⟩
    rw [hj, Nat.add_sub_cancel] at hJ
    unfold treeL at ht
    rw [hj, node_nat hJ] at ht
    dsimp only at ht
    rcases List.mem_cons.1 ht with rfl | ht
    · exact ⟨[], by show bl (a ++ e.1) = _; rw [bl_app, List.append_nil], .inl rfl⟩
    · split at ht
      · cases d with
        | zero => cases ht
        | succ d =>
          rw [treeM, entsAt_at hJ] at ht
          obtain ⟨e', he', u, h3, _⟩ := tree_shape hw d j J (a ++ e.1 ++ slT) hJ J.ents (fun _ h => h) t ht
          refine ⟨47 :: (bl e'.1 ++ u), ?_, .inr ⟨_, rfl⟩⟩
          rw [h3, bl_app, bl_app]
          simp [bl, slT]
      · cases ht
/-- The tree is told in order. -/
theorem tree_sorted (hw : WF c f) : ∀ (d i : Nat) (D : Ino) (a : ByteArray), f[i]? = some (some D) → (treeM f d (i + 1) a).Pairwise BfT
  | 0, _, _, _, _ => List.Pairwise.nil
  | d + 1, i, D, a, hi => by
    have hk := hw.ino i D hi
    rw [treeM, entsAt_at hi]
    have H : ∀ l : Ents, (∀ e ∈ l, e ∈ D.ents) → Sorted (nms l) → (l.flatMap (treeL f (treeM f d) a)).Pairwise BfT := by
      intro l
      induction l with
      | nil => exact fun _ _ => List.Pairwise.nil
      | cons e l ih =>
        intro hl hs
        obtain ⟨hs1, hs2⟩ := sorted_cons (show Sorted (e.1 :: nms l) from hs)
        have hem := hl e (List.mem_cons_self ..)
        rw [List.flatMap_cons]
        refine List.pairwise_append.2 ⟨?_, ih (fun e he => hl e (List.mem_cons_of_mem _ he)) hs1, fun t ht t' ht' => ?_⟩
        · obtain ⟨h2, J, hJ⟩ := hk.live e hem
          obtain ⟨j, hj⟩ : ∃ j, e.2 = j + 1 := ⟨e.2 - 1, by omega⟩
          rw [hj, Nat.add_sub_cancel] at hJ
          unfold treeL
          rw [hj, node_nat hJ]
          dsimp only
          refine List.pairwise_cons.2 ⟨fun t ht => ?_, ?_⟩
          · split at ht
            · cases d with
              | zero => cases ht
              | succ d =>
                rw [treeM, entsAt_at hJ] at ht
                obtain ⟨e', he', u, h3, _⟩ := tree_shape hw d j J (a ++ e.1 ++ slT) hJ J.ents (fun _ h => h) t ht
                show bf (bl (a ++ e.1)) (bl t.path) = true
                rw [h3, bl_app (a ++ e.1) slT, List.append_assoc]
                exact bf_pre _ _ _
            · cases ht
          · split
            · exact tree_sorted hw d j J _ hJ
            · exact List.Pairwise.nil
        · obtain ⟨x, hx, u, h1, h2⟩ := tree_shape hw d i D a hi [e] (fun y hy => by rw [List.mem_singleton.1 hy]; exact hem) t (by simpa using ht)
          obtain rfl := List.mem_singleton.1 hx
          obtain ⟨y, hy, v, h3, h4⟩ := tree_shape hw d i D a hi l (fun y hy => hl y (List.mem_cons_of_mem _ hy)) t' ht'
          show bf (bl t.path) (bl t'.path) = true
          rw [h1, h3, bf_app]
          have hlt := hs2 y.1 (List.mem_map.2 ⟨y, hy, rfl⟩)
          rw [lt_eq] at hlt
          have hlt2 := of_decide_eq_true hlt
          refine bf_names (hk.name x hem).2.2.2.2 (hk.name y (hl y (List.mem_cons_of_mem _ hy))).2.2.2.2 ?_ h2 h4
          rw [Lib.toList_data, Lib.toList_data] at hlt2
          exact hlt2
    exact H D.ents (fun _ h => h) hk.srt
end
theorem drop_at {l : List UInt8} {i : Nat} {b : UInt8} (h : l[i]? = some b) : l.drop i = b :: l.drop (i + 1) := by
  obtain ⟨h1, h2⟩ := List.getElem?_eq_some_iff.1 h
  rw [← h2, List.drop_eq_getElem_cons h1]
set_option maxRecDepth 100000 in
set_option maxHeartbeats 4000000 in
theorem before_any (a b : ByteArray) (w : World) (ha : a.size ≤ maxLen) (hb : b.size ≤ maxLen) : Calls Try.prog 26 #[.string a, .string b] w fun e w' => e = .returned (.bool (bf (bl a) (bl b))) ∧ Below w.heap.size w w' := by
  unfold maxLen at ha hb
  obtain ⟨r, hr⟩ : ∃ r, bf (bl a) (bl b) = r := ⟨_, rfl⟩
  rw [hr]
  obtain ⟨n, hn⟩ : ∃ n, a.size = n := ⟨_, rfl⟩
  obtain ⟨m, hm⟩ : ∃ m, b.size = m := ⟨_, rfl⟩
  have hrH := Lib.hid hr
  have hla := Lib.hid (show (bl a).length = n by rw [bl_len, hn])
  have hlb := Lib.hid (show (bl b).length = m by rw [bl_len, hm])
  rw [hn] at ha
  rw [hm] at hb
  clear hr
  go_enter Try.func26, Try.ntmps26
  go_wp2
  go_loopw [5] (fun s5 wr => ∃ i : Nat, i ≤ n ∧ i ≤ m ∧ s5 = .int .i64 i ∧ Hid (Below w.heap.size w wr) ∧ Hid (bf ((bl a).drop i) ((bl b).drop i) = r)) (fun s5 _ => n - (intOf s5).toNat)
  case atStart => exact ⟨0, Nat.zero_le _, Nat.zero_le _, rfl, Lib.hid (Below.refl _ _), Lib.hid (by rw [List.drop_zero, List.drop_zero]; exact hrH.out)⟩
  case round =>
    obtain ⟨i, hi, hi2, rfl, hbl, hR⟩ := hrel
    by_cases h1 : i < n
    · by_cases h2 : i < m
      · obtain ⟨x, hx⟩ : ∃ x, a[i]'(by omega) = x := ⟨_, rfl⟩
        obtain ⟨y, hy⟩ : ∃ y, b[i]'(by omega) = y := ⟨_, rfl⟩
        have hxl : (bl a)[i]? = some x := by
          rw [← hx, List.getElem?_eq_getElem (by have := hla.out; omega)]
          rfl
        have hyl : (bl b)[i]? = some y := by
          rw [← hy, List.getElem?_eq_getElem (by have := hlb.out; omega)]
          rfl
        have hR2 := hR.out
        rw [drop_at hxl, drop_at hyl, bf] at hR2
        have hRH := Lib.hid hR2
        clear hxl hyl hR2
        go_upto_region 4 with fail
        go_quiet (fail)
        have hwx : wrap64 (x.toNat : Int) = (x.toNat : Int) := by have := x.toNat_lt; unfold wrap64; omega
        have hwy : wrap64 (y.toNat : Int) = (y.toNat : Int) := by have := y.toNat_lt; unfold wrap64; omega
        rw [hwx, hwy]
        have hbH := Lib.hid (below_drewN hbl.out nq)
        have hxl := x.toNat_lt
        have hyl := y.toNat_lt
        have hR9 := hRH.out
        clear hx hy hwx hwy
        by_cases zx : x = 47
        · have xx : (((x.toNat : Nat) : Int) == 47) = true := by rw [zx]; rfl
          by_cases zy : y = 47
          · have xy : (((y.toNat : Nat) : Int) == 47) = true := by rw [zy]; rfl
            have kx : ky x = -1 := by rw [zx]; rfl
            have ky9 : ky y = -1 := by rw [zy]; rfl
            rw [kx, ky9] at hR9
            rw [if_pos rfl] at hR9
            have hRN := Lib.hid hR9
            clear hR9
            go_wp2_with fail
            go_roundw
            case rel => exact ⟨i + 1, by omega, by omega, by go_num, hbH, hRN⟩
            case measure => simp [intOf]; omega
          · have xy : (((y.toNat : Nat) : Int) == 47) = false := beq_eq_false_iff_ne.2 (fun e => zy (UInt8.toNat_inj.1 (by show y.toNat = 47; omega)))
            have kx : ky x = -1 := by rw [zx]; rfl
            have ky9 : ky y = (y.toNat : Int) := (ky_slash zy).2
            rw [kx, ky9] at hR9
            by_cases he : (-1 : Int) = (y.toNat : Int)
            · rw [if_pos he] at hR9
              have xe : (((-1 : Int)) != (y.toNat : Int)) = false := by rw [he]; exact bne_self_eq_false _
              have hRN := Lib.hid hR9
              clear hR9
              go_wp2_with fail
              go_roundw
              case rel => exact ⟨i + 1, by omega, by omega, by go_num, hbH, hRN⟩
              case measure => simp [intOf]; omega
            · rw [if_neg he] at hR9
              have xe : (((-1 : Int)) != (y.toNat : Int)) = true := bne_iff_ne.2 he
              have hRN := Lib.hid hR9
              clear hR9
              go_wp2_with fail
              go_ret
              exact ⟨by rw [← hRN.out]; simp, hbH.out⟩
        · have xx : (((x.toNat : Nat) : Int) == 47) = false := beq_eq_false_iff_ne.2 (fun e => zx (UInt8.toNat_inj.1 (by show x.toNat = 47; omega)))
          by_cases zy : y = 47
          · have xy : (((y.toNat : Nat) : Int) == 47) = true := by rw [zy]; rfl
            have kx : ky x = (x.toNat : Int) := (ky_slash zx).2
            have ky9 : ky y = -1 := by rw [zy]; rfl
            rw [kx, ky9] at hR9
            by_cases he : ((x.toNat : Int) : Int) = -1
            · rw [if_pos he] at hR9
              have xe : ((((x.toNat : Int) : Int)) != -1) = false := by rw [he]; exact bne_self_eq_false _
              have hRN := Lib.hid hR9
              clear hR9
              go_wp2_with fail
              go_roundw
              case rel => exact ⟨i + 1, by omega, by omega, by go_num, hbH, hRN⟩
              case measure => simp [intOf]; omega
            · rw [if_neg he] at hR9
              have xe : ((((x.toNat : Int) : Int)) != -1) = true := bne_iff_ne.2 he
              have hRN := Lib.hid hR9
              clear hR9
              go_wp2_with fail
              go_ret
              exact ⟨by rw [← hRN.out]; simp, hbH.out⟩
          · have xy : (((y.toNat : Nat) : Int) == 47) = false := beq_eq_false_iff_ne.2 (fun e => zy (UInt8.toNat_inj.1 (by show y.toNat = 47; omega)))
            have kx : ky x = (x.toNat : Int) := (ky_slash zx).2
            have ky9 : ky y = (y.toNat : Int) := (ky_slash zy).2
            rw [kx, ky9] at hR9
            by_cases he : ((x.toNat : Int) : Int) = (y.toNat : Int)
            · rw [if_pos he] at hR9
              have xe : ((((x.toNat : Int) : Int)) != (y.toNat : Int)) = false := by rw [he]; exact bne_self_eq_false _
              have hRN := Lib.hid hR9
              clear hR9
              go_wp2_with fail
              go_roundw
              case rel => exact ⟨i + 1, by omega, by omega, by go_num, hbH, hRN⟩
              case measure => simp [intOf]; omega
            · rw [if_neg he] at hR9
              have xe : ((((x.toNat : Int) : Int)) != (y.toNat : Int)) = true := bne_iff_ne.2 he
              have hRN := Lib.hid hR9
              clear hR9
              go_wp2_with fail
              go_ret
              exact ⟨by rw [← hRN.out]; simp, hbH.out⟩
      · obtain rfl : i = m := by omega
        have hR9 := hR.out
        have hd : (bl b).drop i = [] := List.drop_eq_nil_of_le (by have := hlb.out; omega)
        obtain ⟨x, hx⟩ : ∃ x, (bl a)[i]? = some x := ⟨_, List.getElem?_eq_getElem (by have := hla.out; omega)⟩
        rw [hd, drop_at hx] at hR9
        have hRN := Lib.hid (show false = r from hR9)
        clear hR9 hd hx
        go_wp2_with fail
        go_ret
        exact ⟨by rw [← hRN.out]; simp; try omega, hbl.out⟩
    · obtain rfl : i = n := by omega
      have hR9 := hR.out
      have hd : (bl a).drop i = [] := List.drop_eq_nil_of_le (by have := hla.out; omega)
      rw [hd] at hR9
      by_cases h2 : i < m
      · obtain ⟨y, hy⟩ : ∃ y, (bl b)[i]? = some y := ⟨_, List.getElem?_eq_getElem (by have := hlb.out; omega)⟩
        rw [drop_at hy] at hR9
        have hRN := Lib.hid (show true = r from hR9)
        clear hR9 hd hy
        go_wp2_with fail
        go_ret
        exact ⟨by rw [← hRN.out]; simp; try omega, hbl.out⟩
      · obtain rfl : i = m := by omega
        rw [List.drop_eq_nil_of_le (by have := hlb.out; omega)] at hR9
        have hRN := Lib.hid (show false = r from hR9)
        clear hR9 hd
        go_wp2_with fail
        go_ret
        exact ⟨by rw [← hRN.out]; simp, hbl.out⟩
end Go.Proofs.Ytohgecmbkjienaa
/- The walk of FilesPaths. Condition: the calls lie as stated; the texts' sizes. -/
namespace Go.Proofs.Ytohgecmbkjienaa
open Go.RowKit Go.Shelf Go.PlainAid
set_option linter.unusedVariables false
set_option linter.unusedSimpArgs false
attribute [local go_sem] Oper.semAt_some
/-- A tree of the call's own, and two cells that lie apart from it. -/
def OwnX (w0 w : World) (p : Nat) (f : Fs) (r0 f0 : Nat) : Prop :=
  ∃ B, FsIs w B p f ∧ (∀ g, All B g → False ∨ w0.heap.size ≤ g) ∧ Frm (fun _ => False) w0 w ∧ Blk w r0 4 #[.bool false] ∧ Blk w f0 24 #[.pointer (some ⟨p, 0, none⟩)] ∧ ¬ All B r0 ∧ ¬ All B f0
section
variable {w0 w W : World} {p c r0 f0 : Nat} {f : Fs}
theorem OwnX.own (h : OwnX w0 w p f r0 f0) : Own w0 w p f := by
  obtain ⟨B, h1, h2, h3, _⟩ := h
  exact ⟨B, h1, h2, h3⟩
theorem OwnX.below (h : OwnX w0 w p f r0 f0) {w' : World} (hb : Below w.heap.size w w') : OwnX w0 w' p f r0 f0 := by
  obtain ⟨B, h1, h2, h3, h4, h5, h6, h7⟩ := h
  exact ⟨B, h1.below hb, h2, h3.below hb, blk_beneath h4 hb, blk_beneath h5 hb, h6, h7⟩
theorem OwnX.calls {f' : Fs} {F : Nat} {args : Array Value} {R : Ending → Prop} (h : OwnX w0 w p f r0 f0) (k : ∀ B sv ps, FsAt w B p f sv ps → Calls Try.prog F args w fun e w' => R e ∧ FsP (All B) w w' p f') : Calls Try.prog F args w fun e w' => R e ∧ OwnX w0 w' p f' r0 f0 := by
  obtain ⟨B, ⟨sv, ps, h1⟩, h2, h3, h4, h5, h6, h7⟩ := h
  refine (k B sv ps h1).mono fun e w' ⟨h9, B', k1, k2, k3⟩ => ⟨h9, B', k1, fun g hg => (k2 g hg).elim (h2 g) (fun k => .inr (Nat.le_trans h3.size k)), h3.trans (fun g hg => h2 g hg) k3, h4.keep (k3.block r0 h4.lt h6), h5.keep (k3.block f0 h5.lt h7), fun hg2 => ?_, fun hg2 => ?_⟩
  · rcases k2 r0 hg2 with k4 | k4
    · exact h6 k4
    · have := h4.lt
      omega
  · rcases k2 f0 hg2 with k4 | k4
    · exact h7 k4
    · have := h5.lt
      omega
theorem OwnX.res (h : OwnX w0 w p f r0 f0) : Blk w r0 4 #[.bool false] := by
  obtain ⟨B, h1, h2, h3, h4, h5, h6, h7⟩ := h
  exact h4
theorem OwnX.box (h : OwnX w0 w p f r0 f0) : Blk w f0 24 #[.pointer (some ⟨p, 0, none⟩)] := by
  obtain ⟨B, h1, h2, h3, h4, h5, h6, h7⟩ := h
  exact h5
theorem OwnX.walkB (h : OwnX w0 w p f r0 f0) (hw : WF c f) (hc : c ≤ 5000) (hb : Below w.heap.size w W) (n : Int) (s : ByteArray) (hs : s.size ≤ maxLen) : Calls Try.prog 24 #[.pointer (some ⟨p, 0, none⟩), .int .i64 n, .string s] W fun e w' => e = .returned (.tuple #[.int .i64 (WalkM f n s).1, .int .i64 (WalkM f n s).2]) ∧ Below W.heap.size W w' := by
  obtain ⟨B, ⟨sv, ps, h1⟩, _⟩ := h
  exact Walk_any (h1.below hb) (hw.fine hc) hw.closed n s hs
theorem OwnX.pathB (h : OwnX w0 w p f r0 f0) (hw : WF c f) (hc : c ≤ 5000) (hb : Below w.heap.size w W) (n : Int) : Calls Try.prog 23 #[.pointer (some ⟨p, 0, none⟩), .int .i64 n] W fun e w' => e = .returned (.tuple #[.string (PathM f n).1, .int .i64 (PathM f n).2]) ∧ Below W.heap.size W w' := by
  obtain ⟨B, ⟨sv, ps, h1⟩, _⟩ := h
  exact path_any (h1.below hb) hw hc n
end
theorem up_size {c : Nat} {f : Fs} (hw : WF c f) : ∀ (d n : Nat), (upM f d n).size ≤ 33 * d
  | 0, _ => Nat.zero_le _
  | d + 1, n => by
    unfold upM
    split
    · exact Nat.zero_le _
    · rename_i I hI
      have h1 := up_size hw d I.parent
      have h2 := name_size hw I.parent n
      have h3 : (upM f d I.parent ++ (slT ++ nameM (entsAt f I.parent) n)).size = (upM f d I.parent).size + (1 + (nameM (entsAt f I.parent) n).size) := by rw [ByteArray.size_append, ByteArray.size_append]; rfl
      omega
theorem path_size {c : Nat} {f : Fs} (hw : WF c f) (n : Int) : (PathM f n).1.size ≤ 100000 := by
  unfold PathM
  split
  · exact Nat.zero_le _
  · rename_i I hI
    obtain ⟨i, rfl, _, hi⟩ := node_some hI
    split
    · rename_i hd
      split
      · show (1 : Nat) ≤ 100000
        omega
      · split
        · exact Nat.zero_le _
        · rename_i h2
          rw [show ((i : Int) + 1).toNat = i + 1 by omega]
          have h3 := up_size hw (dep f (i + 1)) (i + 1)
          have h4 := deep_le (hw.dep hi hd h2)
          have h5 := hw.len
          dsimp only
          omega
    · exact Nat.zero_le _
/-- The last path that isn't too long. -/
def lastP (l : List Te) : ByteArray := l.foldl (fun s t => if 256 < t.path.size then s else t.path) ⟨#[]⟩
theorem lastP_snoc (l : List Te) (x : Te) : lastP (l ++ [x]) = if 256 < x.path.size then lastP l else x.path := by simp [lastP]
theorem lastP_is (l : List Te) : lastP l = ⟨#[]⟩ ∨ ∃ t ∈ l, lastP l = t.path := by
  suffices H : ∀ (l : List Te) (s : ByteArray), l.foldl (fun s t => if 256 < t.path.size then s else t.path) s = s ∨ ∃ t ∈ l, l.foldl (fun s t => if 256 < t.path.size then s else t.path) s = t.path from H l _
  intro l
  induction l with
  | nil => exact fun s => .inl rfl
  | cons x l ih =>
    intro s
    rw [List.foldl_cons]
    rcases ih (if 256 < x.path.size then s else x.path) with h | ⟨t, h1, h2⟩
    · rw [h]
      split
      · exact .inl rfl
      · exact .inr ⟨x, List.mem_cons_self .., rfl⟩
    · exact .inr ⟨t, List.mem_cons_of_mem _ h1, h2⟩
theorem lastP_size (l : List Te) : (lastP l).size ≤ 256 := by
  suffices H : ∀ (l : List Te) (s : ByteArray), s.size ≤ 256 → (l.foldl (fun s t => if 256 < t.path.size then s else t.path) s).size ≤ 256 from H l _ (by decide)
  intro l
  induction l with
  | nil => exact fun s h => h
  | cons x l ih =>
    intro s h
    rw [List.foldl_cons]
    refine ih _ ?_
    split
    · exact h
    · omega
theorem lastP_before {TM pre : List Te} {x : Te} (hp : TM.Pairwise BfT) (h : pre ++ [x] <+: TM) (h0 : x.path.size ≠ 0) : bf (bl (lastP pre)) (bl x.path) = true := by
  rcases lastP_is pre with h1 | ⟨t, h1, h2⟩
  · rw [h1]
    have : bl x.path ≠ [] := fun e => h0 (by rw [← bl_len, e]; rfl)
    show bf [] (bl x.path) = true
    cases hx : bl x.path with
    | nil => exact absurd hx this
    | cons b r => rfl
  · rw [h2]
    obtain ⟨r, hr⟩ := h
    rw [← hr, List.pairwise_append, List.pairwise_append] at hp
    exact hp.1.2.2 t h1 x (List.mem_singleton.2 rfl)
theorem tree_ne {c : Nat} {f : Fs} (hw : WF c f) {t : Te} (ht : t ∈ TreeM f) : t.path.size ≠ 0 := by
  obtain ⟨R, hR, _⟩ := hw.root
  have ht2 : t ∈ (entsAt f (0 + 1)).flatMap (treeL f (treeM f 101) ⟨#[]⟩) := ht
  rw [entsAt_at hR] at ht2
  obtain ⟨e, he, u, h1, _⟩ := tree_shape hw 101 0 R ⟨#[]⟩ hR R.ents (fun _ h => h) t ht2
  have h2 := ((hw.ino 0 R hR).name e he).1
  have h3 := congrArg List.length h1
  rw [bl_len, List.length_append, List.length_append, bl_len e.1] at h3
  omega
/-- What the last loop holds. -/
def InvP (n₀ l0 : Nat) (w0 : World) (T : List Nat) (pre : List Te) (W : World) : Prop :=
  InvG n₀ (fun g => g = l0) (fun _ => False) w0 T W ∧ (∀ k ∈ T, k < W.heap.size) ∧ Blk W l0 9 #[.string (lastP pre)]
theorem invP_abide {n₀ l0 : Nat} {w0 : World} (hl : l0 < n₀) : Abide (InvP n₀ l0 w0) := fun T T' pre A B ⟨h1, h2, h3⟩ he => by
  refine ⟨h1.ext (fun _ h => h.elim) he, fun k hk => ?_, blk_ext h3 h1.ts hl (fun h => h) he⟩
  rcases he.new k hk with h5 | h5
  · exact Nat.lt_of_lt_of_le (h2 k h5) he.size
  · exact h5.2
set_option maxRecDepth 100000 in
set_option maxHeartbeats 16000000 in
theorem filesPaths_in (A : Option Addr) (len cap : Nat) (cs : List Cl) (w : World) (hl : cs.length = len) (hA : CallsAt w.heap.size w A cs) (hlen : len ≤ maxLen) (hB : ∀ x ∈ cs, ClB x) (hS : ∀ x ∈ cs, x.s.size ≤ reachBytes ∧ x.t.size ≤ reachBytes) :
    CallsIn Fence.wide 6 Try.prog 6 #[.slice A len cap] w fun e w' => e = .returned (.bool true) ∧ Below w.heap.size w w' := by
  unfold maxLen at hlen
  have hAH := Lib.hid hA
  have hBH := Lib.hid hB
  have hSH := Lib.hid hS
  have hlH := Lib.hid hl
  clear hA hB hS hl
  refine callsIn_of_wp_marks Try.func6 rfl trivial ?_ rfl
  simp only [Try.ntmps6, List.size_toArray, List.length_cons, List.length_nil, Nat.reduceAdd, Nat.reduceSub, Array.replicate_succ, Array.replicate_zero, List.push_toArray, List.append_toArray, List.nil_append, List.cons_append]
  obtain ⟨r0, hr0⟩ : ∃ r0, w.heap.size = r0 := ⟨_, rfl⟩
  obtain ⟨Wa, hWa⟩ : ∃ Wa, w.alloc (.cells #[.bool false] 4) = Wa := ⟨_, rfl⟩
  have hba : Below w.heap.size w Wa := by rw [← hWa]; exact alB _ _
  have hra : Blk Wa r0 4 #[.bool false] := by rw [← hWa]; exact newB _ _ _ hr0
  have hraH := Lib.hid hra
  have hbaH := Lib.hid hba
  have hr0H := Lib.hid hr0
  clear hba hra
  refine wpIn_wide.2 ?_
  go_wp2_with (first | rw [hWa] | rw [hr0])
  refine (awake_any Wa).mono ?_
  rintro e w1 ⟨rfl, hB1⟩
  go_wp2_with fail
  refine (new_own w1).mono ?_
  rintro e w2 ⟨rfl, hO2⟩
  obtain ⟨p, hp⟩ : ∃ p, w1.heap.size = p := ⟨_, rfl⟩
  obtain ⟨f0, hf0⟩ : ∃ f0, w2.heap.size = f0 := ⟨_, rfl⟩
  rw [hp] at hO2 ⊢
  obtain ⟨W3, hW3⟩ : ∃ W3, w2.alloc (.cells #[.pointer (some ⟨p, 0, none⟩)] 24) = W3 := ⟨_, rfl⟩
  have hOX : Hid (OwnX w W3 p newM r0 f0) := Lib.hid (by
    obtain ⟨B, h1, h2, h3⟩ := hO2
    have hb3 : Below w2.heap.size w2 W3 := by rw [← hW3]; exact alB _ _
    have hrl := hraH.out.lt
    have h1s := hB1.size
    have hws := hbaH.out.size
    refine ⟨B, h1.below hb3, fun g hg => .inr ?_, ?_, ?_, ?_, fun ⟨i, hi⟩ => ?_, fun ⟨i, hi⟩ => ?_⟩
    · rcases h2 g hg with h4 | h4
      · exact h4.elim
      · omega
    · exact ((Frm.of_below (O := fun _ => False) (hbaH.out.trans (below_of hB1 hws))).trans (fun g hg => .inl hg) h3).below hb3
    · exact (((hraH.out.keep (hB1.block r0 hrl)).keep (h3.block r0 (by omega) (fun h => h)))).keep (hb3.block r0 (by have := h3.size; omega))
    · rw [← hW3]
      exact newB w2 _ _ hf0
    · rcases h2 r0 ⟨i, hi⟩ with h4 | h4
      · exact h4
      · omega
    · have := h1.lt i f0 hi
      omega)
  clear hO2 hB1 hraH
  go_upto_block 0 with (first | rw [hW3] | rw [hf0])
  go_cut [] from 4 to 47 (fun wx => ∃ f, Hid (WF 100 f) ∧ Hid (DX f) ∧ Hid (OwnX w wx p f r0 f0))
  case first =>
    go_wp2_with fail
    go_loopw [22] (fun s22 wr => ∃ (i : Nat) (f : Fs), i ≤ len ∧ i ≤ 100 ∧ s22 = .int .i64 i ∧ Hid (WF i f) ∧ Hid (DX f) ∧ Hid (OwnX w wr p f r0 f0)) (fun s22 _ => len - (intOf s22).toNat)
    case atStart => exact ⟨0, newM, Nat.zero_le _, Nat.zero_le _, rfl, Lib.hid new_wf, Lib.hid new_dx, hOX⟩
    case round =>
      obtain ⟨i, f, hi, hi2, rfl, hW, hDX, hOr⟩ := hrel
      by_cases hil : i < len
      · obtain ⟨x, hx⟩ : ∃ x, cs[i]? = some x := ⟨_, List.getElem?_eq_getElem (by have := hlH.out; omega)⟩
        obtain ⟨b, off, rfl, hb, e0, e1, e2, e3, e4, e5⟩ := (hAH.out.below hOr.out.own.toBelow).at hx
        obtain ⟨q, N, M, K, s, t⟩ := x
        dsimp only at e0 e1 e2 e3 e4 e5
        have hxm := List.mem_of_getElem? hx
        have hxb := hBH.out _ hxm
        have hxs := (hSH.out _ hxm)
        obtain ⟨k1, k2, k3, k4, k6, k7⟩ := hxb
        dsimp only at k1 k2 k3 k4 k6 k7 hxs
        have k9 : t.size ≤ 9000000000000000000 := by have := hxs.2; have := reachBytes_lt; omega
        obtain ⟨q0, hq0⟩ : ∃ q0, wr.heap.size = q0 := ⟨_, rfl⟩
        obtain ⟨W1, hW1⟩ : ∃ W1, wr.alloc (.cells #[.int .i64 q, .int .i64 N, .int .i64 M, .int .i64 K, .string s, .string t] 27) = W1 := ⟨_, rfl⟩
        have hb1 : Below wr.heap.size wr W1 := by rw [← hW1]; exact alB _ _
        have hC1 : Blk W1 q0 27 #[.int .i64 q, .int .i64 N, .int .i64 M, .int .i64 K, .string s, .string t] := by rw [← hW1]; exact newB _ _ _ hq0
        have d0 : W1.cell? ⟨q0, 0, none⟩ = some (.int .i64 q) := hC1.cell 0
        have d1 : W1.cell? ⟨q0, 1, none⟩ = some (.int .i64 N) := hC1.cell 1
        have d2 : W1.cell? ⟨q0, 2, none⟩ = some (.int .i64 M) := hC1.cell 2
        have g2 : W1.frozen? ⟨q0, 2, none⟩ = false := hC1.frozen 2
        have d3 : W1.cell? ⟨q0, 3, none⟩ = some (.int .i64 K) := hC1.cell 3
        have d4 : W1.cell? ⟨q0, 4, none⟩ = some (.string s) := hC1.cell 4
        have d5 : W1.cell? ⟨q0, 5, none⟩ = some (.string t) := hC1.cell 5
        have hO1 := Lib.hid (hOr.out.below hb1)
        have hf1 : W1.cell? ⟨f0, 0, none⟩ = some (.pointer (some ⟨p, 0, none⟩)) := hO1.out.box.cell 0
        have hfq : f0 ≠ q0 := by have := hOr.out.box.lt; omega
        have hK := Lib.hid (show s.size ≤ maxLen ∧ t.size ≤ maxLen ∧ t.size ≤ 9000000000000000000 from ⟨k1, k2, k9⟩)
        have hC1H := Lib.hid hC1
        have hb1H := Lib.hid hb1
        clear hx hb1 hxm hxs k1 k2 k9 hC1 hOX
        by_cases hk3 : i = 100
        · subst hk3
          go_wp2_with (first | rw [hW1] | rw [hq0])
          go_meet
          exact ⟨f, hW, hDX, hO1⟩
        · have hk5 : ((i : Int) == 100) = false := by simp; omega
          by_cases z10 : q = 10
          · subst z10
            go_wp2_with (first | rw [hW1] | rw [hq0])
            go_roundw
            case rel => exact ⟨i + 1, f, by omega, by omega, by go_num, Lib.hid (hW.out.mono (by omega)), hDX, hO1⟩
            case measure => simp [intOf]; omega
          · by_cases z2 : q = 2
            · subst z2
              obtain ⟨W2, hW2⟩ : ∃ W2, W1.setCell ⟨q0, 2, none⟩ (.int .i64 493) = W2 := ⟨_, rfl⟩
              have hC2 : Blk W2 q0 27 #[.int .i64 2, .int .i64 N, .int .i64 493, .int .i64 K, .string s, .string t] := by
                rw [← hW2]
                have h9 := hC1H.out.set_ 2 (.int .i64 493)
                simpa using h9
              have hO2 := Lib.hid (show OwnX w W2 p f r0 f0 by rw [← hW2]; exact hOr.out.below (hb1H.out.setCell (p := ⟨q0, 2, none⟩) (by show wr.heap.size ≤ q0; omega) _))
              have c0 : W2.cell? ⟨q0, 0, none⟩ = some (.int .i64 2) := hC2.cell 0
              have c1 : W2.cell? ⟨q0, 1, none⟩ = some (.int .i64 N) := hC2.cell 1
              have c2 : W2.cell? ⟨q0, 2, none⟩ = some (.int .i64 493) := hC2.cell 2
              have c3 : W2.cell? ⟨q0, 3, none⟩ = some (.int .i64 K) := hC2.cell 3
              have c4 : W2.cell? ⟨q0, 4, none⟩ = some (.string s) := hC2.cell 4
              have c5 : W2.cell? ⟨q0, 5, none⟩ = some (.string t) := hC2.cell 5
              have cf : W2.cell? ⟨f0, 0, none⟩ = some (.pointer (some ⟨p, 0, none⟩)) := hO2.out.box.cell 0
              have hwf := Lib.hid (step_wf hW.out 2 N 493 K s t)
              have hdx := Lib.hid (dx_step hDX.out 2 N 493 K s t (by decide) (fun _ => rfl))
              have hask := Lib.hid (hO2.out.calls (F := 14) (args := #[.pointer (some ⟨p, 0, none⟩), .agg #[.int .i64 2, .int .i64 N, .int .i64 493, .int .i64 K, .string s, .string t]]) (fun B sv ps h1 => ask_any h1 hW.out (by omega) 2 N 493 K s t hK.out.1 hK.out.2.1 hK.out.2.2))
              clear hC2
              go_wp2_with (first | rw [hW1] | rw [hq0] | rw [hW2])
              refine hask.out.mono ?_
              rintro E w5 ⟨⟨nn, xx, s0, s1, s2, s3, s4, yy, rfl⟩, hO5⟩
              have hO5H := Lib.hid hO5
              clear hO5 hask
              go_wp2_with fail
              go_roundw
              case rel => exact ⟨i + 1, _, by omega, by omega, by go_num, hwf, hdx, hO5H⟩
              case measure => simp [intOf]; omega
            · have y10 : (q != 10) = true := bne_iff_ne.2 z10
              have y2 : (q != 2) = true := bne_iff_ne.2 z2
              have hwf := Lib.hid (step_wf hW.out q N M K s t)
              have hdx := Lib.hid (dx_step hDX.out q N M K s t z10 (fun h => absurd h z2))
              have hask := Lib.hid (hO1.out.calls (F := 14) (args := #[.pointer (some ⟨p, 0, none⟩), .agg #[.int .i64 q, .int .i64 N, .int .i64 M, .int .i64 K, .string s, .string t]]) (fun B sv ps h1 => ask_any h1 hW.out (by omega) q N M K s t hK.out.1 hK.out.2.1 hK.out.2.2))
              go_wp2_with (first | rw [hW1] | rw [hq0])
              refine hask.out.mono ?_
              rintro E w5 ⟨⟨nn, xx, s0, s1, s2, s3, s4, yy, rfl⟩, hO5⟩
              have hO5H := Lib.hid hO5
              clear hO5 hask
              go_wp2_with fail
              go_roundw
              case rel => exact ⟨i + 1, _, by omega, by omega, by go_num, hwf, hdx, hO5H⟩
              case measure => simp [intOf]; omega
      · obtain rfl : i = len := by omega
        go_wp2_with fail
        go_meet
        exact ⟨f, Lib.hid (hW.out.mono hi2), hDX, hOr⟩
  case rest =>
    obtain ⟨f, hW, hDX, hO⟩ := hcut
    clear hOX
    go_upto_block 2 with fail
    go_cut [] from 4 to 77 (fun wx => Hid (OwnX w wx p f r0 f0))
    case first =>
      go_wp2_with fail
      go_loopw [6] (fun s6 wr => ∃ j : Nat, j ≤ 220 ∧ s6 = .int .i64 ((j : Int) + 1) ∧ Hid (OwnX w wr p f r0 f0)) (fun s6 _ => 221 - (intOf s6).toNat)
      case atStart => exact ⟨0, Nat.zero_le _, rfl, hO⟩
      case round =>
        obtain ⟨j, hj, rfl, hOr⟩ := hrel
        by_cases hjl : j < 220
        · have hfr : wr.cell? ⟨f0, 0, none⟩ = some (.pointer (some ⟨p, 0, none⟩)) := hOr.out.box.cell 0
          have hpa := hOr.out.pathB hW.out (by omega) (Below.refl _ _) ((j : Int) + 1)
          have hps := path_size hW.out ((j : Int) + 1)
          have hpl := Lib.hid (path_leads hW.out hDX.out ((j : Int) + 1))
          obtain ⟨P, hP⟩ : ∃ P, (PathM f ((j : Int) + 1)).1 = P := ⟨_, rfl⟩
          obtain ⟨pe, hpe⟩ : ∃ pe, (PathM f ((j : Int) + 1)).2 = pe := ⟨_, rfl⟩
          rw [hP, hpe] at hpa hpl
          rw [hP] at hps
          have hpaH := Lib.hid hpa
          clear hpa hP hpe
          go_wp2_with fail
          refine hpaH.out.mono ?_
          rintro e w4 ⟨rfl, hb4⟩
          have hO4 := Lib.hid (hOr.out.below hb4)
          clear hb4
          by_cases z : pe = 0
          · subst z
            have hf4 : w4.cell? ⟨f0, 0, none⟩ = some (.pointer (some ⟨p, 0, none⟩)) := hO4.out.box.cell 0
            have hwk := hO4.out.walkB hW.out (by omega) (Below.refl _ _) 1 P (by unfold maxLen; omega)
            by_cases z256 : P.size ≤ 256
            · rw [hpl.out rfl z256] at hwk
              have hwkH := Lib.hid hwk
              have xl : decide ((P.size : Int) ≤ 256) = true := by simp; omega
              have xj : ((((j : Int) + 1)) != ((j : Int) + 1)) = false := by simp
              clear hwk
              go_wp2_with fail
              refine hwkH.out.mono ?_
              rintro e w5 ⟨rfl, hb5⟩
              have hO5 := Lib.hid (hO4.out.below hb5)
              clear hb5
              go_wp2_with fail
              go_roundw
              case rel => exact ⟨j + 1, by omega, by go_num, hO5⟩
              case measure => simp [intOf]; omega
            · have hwkH := Lib.hid hwk
              have xl : ¬ ((P.size : Int) ≤ 256) := by omega
              clear hwk
              go_wp2_with fail
              refine hwkH.out.mono ?_
              rintro e w5 ⟨rfl, hb5⟩
              have hO5 := Lib.hid (hO4.out.below hb5)
              clear hb5
              go_wp2_with fail
              go_roundw
              case rel => exact ⟨j + 1, by omega, by go_num, hO5⟩
              case measure => simp [intOf]; omega
          · have xe : ((pe : Int) != 0) = true := bne_iff_ne.2 (by omega)
            go_wp2_with fail
            go_roundw
            case rel => exact ⟨j + 1, by omega, by go_num, hO4⟩
            case measure => simp [intOf]; omega
        · obtain rfl : j = 220 := by omega
          go_wp2_with fail
          go_meet
          exact hOr
    case rest =>
      have hOc := hcut
      clear hO
      obtain ⟨l0, hl0⟩ : ∃ l0, wc.heap.size = l0 := ⟨_, rfl⟩
      obtain ⟨Wk, hWk⟩ : ∃ Wk, wc.alloc (.cells #[.string ⟨#[]⟩] 9) = Wk := ⟨_, rfl⟩
      have hbk : Below wc.heap.size wc Wk := by rw [← hWk]; exact alB _ _
      have kk : Blk Wk l0 9 #[.string ⟨#[]⟩] := by rw [← hWk]; exact newB wc _ _ hl0
      have ck : Wk.cell? ⟨l0, 0, none⟩ = some (.string ⟨#[]⟩) := kk.cell 0
      have gk : Wk.frozen? ⟨l0, 0, none⟩ = false := kk.frozen 0
      obtain ⟨Wl, hWl⟩ : ∃ Wl, Wk.setCell ⟨l0, 0, none⟩ (.string ⟨#[]⟩) = Wl := ⟨_, rfl⟩
      obtain ⟨W0, hW0⟩ : ∃ W0, Wl.alloc (.cells #[.pointer (some ⟨p, 0, none⟩)] 24) = W0 := ⟨_, rfl⟩
      have hbl : Below wc.heap.size wc Wl := by rw [← hWl]; exact hbk.setCell (p := ⟨l0, 0, none⟩) (by show wc.heap.size ≤ l0; omega) _
      have hsl : Wl.heap.size = l0 + 1 := by rw [← hWl, World.size_setCell, ← hWk, ← hl0]; simp
      have hb0 : Below wc.heap.size wc W0 := by rw [← hW0]; exact hbl.alloc hbl.size _
      have hs0 : W0.heap.size = l0 + 2 := by rw [← hW0]; simp [hsl]
      have kl : Blk W0 l0 9 #[.string ⟨#[]⟩] := by rw [← hW0]; refine Blk.alloc ?_ _; rw [← hWl]; exact kk.set_ 0 (.string ⟨#[]⟩)
      have kb : Blk W0 (l0 + 1) 24 #[.pointer (some ⟨p, 0, none⟩)] := by rw [← hW0]; exact newB _ _ _ hsl
      obtain ⟨B, h1, h2, h3, h4, h5, h6, h7⟩ := hOc.out
      have hBB : ∀ i g, B i g → g < W0.heap.size ∧ ¬ g = l0 := fun i g hg => by have := h1.lt i g hg; omega
      have hst := Lib.hid (Tree1_stops 5 W0.heap.size (l0 + 1) (by omega) (fun g => g = l0) (h1.below hb0) hW.out (by omega) hBB (Nat.le_refl _) kb)
      have hF0 := Lib.hid (h1.below hb0)
      have hBH2 := Lib.hid hBB
      have hR0 := Lib.hid (blk_beneath h4 hb0)
      have hX0 := Lib.hid (blk_beneath h5 hb0)
      have hrl : r0 < l0 := by have := h4.lt; omega
      have hfl : f0 < l0 := by have := h5.lt; omega
      have hbF := Lib.hid (show Below w.heap.size w W0 from hOc.out.own.toBelow.trans (below_of hb0 hOc.out.own.toBelow.size))
      have hll : Wl.cell? ⟨f0, 0, none⟩ = some (.pointer (some ⟨p, 0, none⟩)) := (blk_beneath h5 hbl).cell 0
      have hTs := Lib.hid (by
        obtain ⟨R, hR, _⟩ := hW.out.root
        exact (tree_sorted hW.out 102 0 R ⟨#[]⟩ hR : (TreeM f).Pairwise BfT))
      have hW0H := Lib.hid hW0
      clear h1 h2 h3 h4 h5 h6 h7 hBB hb0 hbl hbk kk
      go_wp2_with (first | rw [hWk] | rw [hl0] | rw [hWl] | (go_at_call 25; refine (Tree_any (some p) _).mono ?_; rintro e w' ⟨rfl, rfl⟩))
      rw [show ptrV (some p) = Value.pointer (some ⟨p, 0, none⟩) from rfl, hW0H.out]
      try rw [hsl]
      refine (wpIn_wide (n := 6)).1 ?_
      apply range_law (n := 6) rfl (by omega) (gf := 52) (lb := #[.pointer (some ⟨l0 + 1, 0, none⟩)]) rfl trivial (enters_of Try.func52 (by kernel_rfl) rfl)
        hst.out (fun k hk => by cases hk) (fun pre x A B k o o' hk h hn => keepN_b hk (h (by simpa [World.putObj] using hn))) (Below.refl _ _) (fun _ => rfl)
        (InvP W0.heap.size l0 W0) (fun _ _ _ _ => False) (invP_abide (by omega)) (fun _ _ _ _ _ _ h _ => h) ⟨InvG.start (fun k hk => by cases hk) (Nat.le_refl _), (fun k hk => by cases hk), kl⟩
        ?a1 (fun x W => W.alloc (.cells #[.string x.path, .int .i64 x.kind, .int .i64 x.mode, .string x.data] 56)) (fun x W => alB W _) ?ka ?assign ?body ?done ?stop
      case ka => exact fun pre x A B hk hn => keepN_of hn (alB A _) |>.trans (hk (by simp; omega))
      case assign =>
        intro l x W K hK
        dsimp only [encT]
        gi_wp2
        exact hK
      case body =>
        intro l T pre x W W' o hsp hiW hlW hW' ⟨hI, hTl2, hL⟩
        obtain ⟨q, hq⟩ : ∃ q, W.heap.size = q := ⟨_, rfl⟩
        have hB4 : Blk W' q 56 #[.string x.path, .int .i64 x.kind, .int .i64 x.mode, .string x.data] := by
          rw [hW']
          exact (World.putObj_heap_other (by omega)).trans (newB W _ q hq)
        rw [hq]
        have hnI := hI.n0
        have y0 : W'.cell? ⟨l0, 0, none⟩ = some (.string (lastP pre)) := hL.cell 0
        have g0 : W'.frozen? ⟨l0, 0, none⟩ = false := hL.frozen 0
        have e0 : W'.cell? ⟨q, 0, none⟩ = some (.string x.path) := hB4.cell 0
        have e1 : W'.cell? ⟨q, 1, none⟩ = some (.int .i64 x.kind) := hB4.cell 1
        have e2 : W'.cell? ⟨q, 2, none⟩ = some (.int .i64 x.mode) := hB4.cell 2
        have e3 : W'.cell? ⟨q, 3, none⟩ = some (.string x.data) := hB4.cell 3
        have hXf : Blk W' f0 24 #[.pointer (some ⟨p, 0, none⟩)] := hX0.out.keep (hI.block f0 (by omega) (by omega))
        have yf : W'.cell? ⟨f0, 0, none⟩ = some (.pointer (some ⟨p, 0, none⟩)) := hXf.cell 0
        have hFW : Hid (FsIs W' B p f) := Lib.hid (hF0.out.keep hI.n0 (fun i g hg => hI.block g (hBH2.out i g hg).1 (hBH2.out i g hg).2))
        obtain ⟨k, hk⟩ : ∃ k, x.path.size = k := ⟨_, rfl⟩
        have hIH := Lib.hid hI
        have hLH := Lib.hid hL
        have hTlH := Lib.hid hTl2
        have hBH4 := Lib.hid hB4
        have hqW : q < W'.heap.size := hB4.lt
        have hkH := Lib.hid hk
        by_cases hk6 : 256 < k
        · clear hW' hI hL hTl2 hB4 hXf hiW hsp
          have hk7 : ((256 : Int) < k) := by omega
          gi_wp2
          refine ⟨⟨hIH.out, hTlH.out, ?_⟩, keeps_below (Below.refl _ _), fun hn5 => keepN_of hn5 (Below.refl _ _)⟩
          rw [lastP_snoc, if_pos (by omega)]
          exact hLH.out
        · have hxm : x ∈ TreeM f := by
            obtain ⟨r, hr⟩ := hsp
            rw [← hr]
            simp
          obtain ⟨j, J, hJ, ht, hwk⟩ := entry_walk hW.out hDX.out hxm (by omega)
          have ek : x.kind = J.kind := congrArg Te.kind ht
          have em : x.mode = J.mode := congrArg Te.mode ht
          have ed : x.data.size = J.data.length := by rw [congrArg Te.data ht]; show J.data.toArray.size = _; simp
          have hbf := lastP_before hTs.out hsp (tree_ne hW.out hxm)
          have hsA := lastP_size pre
          obtain ⟨LP, hLP⟩ : ∃ LP, lastP pre = LP := ⟨_, rfl⟩
          rw [hLP] at hbf hsA y0
          obtain ⟨XP, hXP⟩ : ∃ XP, x.path = XP := ⟨_, rfl⟩
          obtain ⟨XD, hXD⟩ : ∃ XD, x.data = XD := ⟨_, rfl⟩
          obtain ⟨XK, hXK⟩ : ∃ XK, x.kind = XK := ⟨_, rfl⟩
          obtain ⟨XM, hXM⟩ : ∃ XM, x.mode = XM := ⟨_, rfl⟩
          rw [hXP] at hbf hwk e0 hk
          rw [hXK] at ek e1
          rw [hXM] at em e2
          rw [hXD] at ed e3
          have hsz : J.kind = 1 → J.size = XD.size := fun h => by
            rw [ed]
            unfold Ino.size Ino.isDir
            rw [h]
            rfl
          have hbfH := Lib.hid hbf
          have hkl : k ≤ 256 := by omega
          have hWC := hFW.out
          obtain ⟨sv, ps, hFA⟩ := hWC
          have hC1 := Walk_any hFA (hW.out.fine (by omega)) hW.out.closed 1 XP (by unfold maxLen; omega)
          rw [hwk] at hC1
          have hC1H := Lib.hid hC1
          have hFAH := Lib.hid hFA
          have hSt := (show StatM f ((j : Int) + 1) = (#[.int .i64 ((j : Int) + 1), .int .i64 J.kind, .int .i64 J.mode, .int .i64 J.links, .int .i64 J.size], 0) by unfold StatM; rw [node_at hJ]; rfl)
          obtain ⟨JK, hJK⟩ : ∃ v, J.kind = v := ⟨_, rfl⟩
          obtain ⟨JM, hJM⟩ : ∃ v, J.mode = v := ⟨_, rfl⟩
          obtain ⟨JL, hJL⟩ : ∃ v, J.links = v := ⟨_, rfl⟩
          obtain ⟨JS, hJS⟩ : ∃ v, J.size = v := ⟨_, rfl⟩
          rw [hJK, hJM, hJL, hJS] at hSt
          rw [hJK, hJS] at hsz
          rw [hJK] at ek
          rw [hJM] at em
          have hStH := Lib.hid hSt
          have hXPH := Lib.hid hXP
          have hXKH := Lib.hid hXK
          have hXMH := Lib.hid hXM
          have hXDH := Lib.hid hXD
          have hLPH := Lib.hid hLP
          have hXfH := Lib.hid hXf
          clear hSt hJK hJM hJL hJS ed hC1 hFA hwk hJ ht hW' hI hL hTl2 hXf hiW hsp hxm hbf hXP hXK hXM hXD hLP hB4
          gi_wp2_with fail
          refine ⟨trivial, ?_⟩
          refine (CallsIn.inRound l (callsIn_wide.2 hC1H.out)).mono ?_
          rintro e w5 ⟨rfl, hb5⟩
          have hF5 := hFAH.out.below hb5
          have hSC := stat_any hF5 (hW.out.fine (by omega)) ((j : Int) + 1)
          rw [hStH.out] at hSC
          have hSCH := Lib.hid hSC
          have yf5 : w5.cell? ⟨f0, 0, none⟩ = some (.pointer (some ⟨p, 0, none⟩)) := (blk_beneath hXfH.out hb5).cell 0
          have hb5H := Lib.hid hb5
          clear hF5 hSC hb5
          gi_wp2_with fail
          refine ⟨trivial, ?_⟩
          refine (CallsIn.inRound l (callsIn_wide.2 hSCH.out)).mono ?_
          rintro e w6 ⟨rfl, hb6⟩
          obtain ⟨q9, hq9⟩ : ∃ q9, w6.heap.size = q9 := ⟨_, rfl⟩
          obtain ⟨W7, hW7⟩ : ∃ W7, w6.alloc (.cells #[.int .i64 ((j : Int) + 1), .int .i64 JK, .int .i64 JM, .int .i64 JL, .int .i64 JS] 32) = W7 := ⟨_, rfl⟩
          have hb7 : Below W'.heap.size W' W7 := by
            have h6 := hb5H.out.trans (below_of hb6 hb5H.out.size)
            rw [← hW7]
            exact h6.alloc h6.size _
          have hA7 : Blk W7 q9 32 #[.int .i64 ((j : Int) + 1), .int .i64 JK, .int .i64 JM, .int .i64 JL, .int .i64 JS] := by rw [← hW7]; exact newB _ _ _ hq9
          have hs7 : W7.heap.size = q9 + 1 := by rw [← hW7, ← hq9]; simp
          have v1 : W7.cell? ⟨q9, 1, none⟩ = some (.int .i64 JK) := hA7.cell 1
          have v2 : W7.cell? ⟨q9, 2, none⟩ = some (.int .i64 JM) := hA7.cell 2
          have v4 : W7.cell? ⟨q9, 4, none⟩ = some (.int .i64 JS) := hA7.cell 4
          have hB7 := blk_beneath hBH4.out hb7
          have e0' : W7.cell? ⟨q, 0, none⟩ = some (.string XP) := by rw [← hXPH.out]; exact hB7.cell 0
          have e1' : W7.cell? ⟨q, 1, none⟩ = some (.int .i64 JK) := by rw [← ek, ← hXKH.out]; exact hB7.cell 1
          have e2' : W7.cell? ⟨q, 2, none⟩ = some (.int .i64 JM) := by rw [← em, ← hXMH.out]; exact hB7.cell 2
          have e3' : W7.cell? ⟨q, 3, none⟩ = some (.string XD) := by rw [← hXDH.out]; exact hB7.cell 3
          have y0' : W7.cell? ⟨l0, 0, none⟩ = some (.string LP) := by rw [← hLPH.out]; exact (blk_beneath hLH.out hb7).cell 0
          have hb7H := Lib.hid hb7
          have hBC := before_any LP XP W7 (by unfold maxLen; omega) (by unfold maxLen; omega)
          rw [hbfH.out] at hBC
          have hBCH := Lib.hid hBC
          have hW7' := hW7
          clear hA7 hB7 hb7 hb6 hBC hW7
          gi_upto_region 28 with fail
          try rw [hW7']
          try rw [hq9]
          have hL7 := Lib.hid (show Blk W7 l0 9 #[.string LP] by rw [← hLPH.out]; exact blk_beneath hLH.out hb7H.out)
          by_cases hk1 : JK = 1
          · obtain rfl := hsz hk1
            subst hk1
            gi_wp2_with fail
            refine ⟨trivial, ?_⟩
            refine (CallsIn.inRound l (callsIn_wide.2 hBCH.out)).mono ?_
            rintro e w8 ⟨rfl, hb8⟩
            have y8 : w8.cell? ⟨l0, 0, none⟩ = some (.string LP) := (blk_beneath hL7.out hb8).cell 0
            have g8 : w8.frozen? ⟨l0, 0, none⟩ = false := (blk_beneath hL7.out hb8).frozen 0
            have x8 : w8.cell? ⟨q, 0, none⟩ = some (.string XP) := by rw [← hXPH.out]; exact (blk_beneath hBH4.out (hb7H.out.trans (below_of hb8 hb7H.out.size))).cell 0
            have hb8H := Lib.hid hb8
            clear hb8
            gi_wp2_with fail
            have hb9 := hb7H.out.trans (below_of hb8H.out hb7H.out.size)
            have hk9 : ∀ g, g < W'.heap.size → g ≠ l0 → (w8.setCell ⟨l0, 0, none⟩ (.string XP)).heap[g]? = W'.heap[g]? := fun g h1 h2 => (Below.heap_setCell _ _ _ _ (fun e => h2 e)).trans (hb9.block g h1)
            have hz9 : W'.heap.size ≤ (w8.setCell ⟨l0, 0, none⟩ (.string XP)).heap.size := by rw [World.size_setCell]; exact hb9.size
            refine ⟨⟨(hIH.out.below hb9).set (.inl rfl) _, fun t ht => Nat.lt_of_lt_of_le (hTlH.out t ht) hz9, ?_⟩, ⟨hz9, fun t ht hl => hk9 t hl (fun e => ?_)⟩, fun hn5 => ⟨hz9, fun g hg hgc => hk9 g (by omega) hgc⟩⟩
            · rw [lastP_snoc, if_neg (by rw [hXPH.out]; have h0 := hkH.out; omega), hXPH.out]
              exact (blk_beneath hL7.out hb8H.out).set_ 0 _
            · rcases hIH.out.ts t ht with h9 | h9
              · omega
              · exact h9
          · have xk1 : ((JK : Int) == 1) = false := beq_eq_false_iff_ne.2 (by omega)
            clear hsz
            gi_wp2_with fail
            refine ⟨trivial, ?_⟩
            refine (CallsIn.inRound l (callsIn_wide.2 hBCH.out)).mono ?_
            rintro e w8 ⟨rfl, hb8⟩
            have y8 : w8.cell? ⟨l0, 0, none⟩ = some (.string LP) := (blk_beneath hL7.out hb8).cell 0
            have g8 : w8.frozen? ⟨l0, 0, none⟩ = false := (blk_beneath hL7.out hb8).frozen 0
            have x8 : w8.cell? ⟨q, 0, none⟩ = some (.string XP) := by rw [← hXPH.out]; exact (blk_beneath hBH4.out (hb7H.out.trans (below_of hb8 hb7H.out.size))).cell 0
            have hb8H := Lib.hid hb8
            clear hb8
            gi_wp2_with fail
            have hb9 := hb7H.out.trans (below_of hb8H.out hb7H.out.size)
            have hk9 : ∀ g, g < W'.heap.size → g ≠ l0 → (w8.setCell ⟨l0, 0, none⟩ (.string XP)).heap[g]? = W'.heap[g]? := fun g h1 h2 => (Below.heap_setCell _ _ _ _ (fun e => h2 e)).trans (hb9.block g h1)
            have hz9 : W'.heap.size ≤ (w8.setCell ⟨l0, 0, none⟩ (.string XP)).heap.size := by rw [World.size_setCell]; exact hb9.size
            refine ⟨⟨(hIH.out.below hb9).set (.inl rfl) _, fun t ht => Nat.lt_of_lt_of_le (hTlH.out t ht) hz9, ?_⟩, ⟨hz9, fun t ht hl => hk9 t hl (fun e => ?_)⟩, fun hn5 => ⟨hz9, fun g hg hgc => hk9 g (by omega) hgc⟩⟩
            · rw [lastP_snoc, if_neg (by rw [hXPH.out]; have h0 := hkH.out; omega), hXPH.out]
              exact (blk_beneath hL7.out hb8H.out).set_ 0 _
            · rcases hIH.out.ts t ht with h9 | h9
              · omega
              · exact h9
      case done =>
        rintro D T xs W hD hDT rfl ⟨hI, _, hL⟩ hK
        have k4 : Blk W r0 4 #[.bool false] := hR0.out.keep (hI.block r0 (by omega) (by omega))
        have y4 : W.cell? ⟨r0, 0, none⟩ = some (.bool false) := k4.cell 0
        have f4 : W.frozen? ⟨r0, 0, none⟩ = false := k4.frozen 0
        have hKH := Lib.hid hK
        have k4H := Lib.hid k4
        have hrw : w.heap.size ≤ r0 := by have := hr0H.out; omega
        have hbH : Hid (Below w.heap.size w W) := Lib.hid (hI.toBelow hbF.out (fun g hg => by omega) (Nat.le_refl _))
        clear hI hK hL k4
        go_wp2
        have k5 := (KeepsOthers.setCell W ⟨r0, 0, none⟩ (.bool true)).same D _ hKH.out rfl
        have z2 : Blk ((W.setCell ⟨r0, 0, none⟩ (.bool true)).putObj D (.deferred none)) r0 4 #[.bool true] := (World.putObj_heap_other (by omega)).trans (k4H.out.set_ 0 _)
        have q3 : ((W.setCell ⟨r0, 0, none⟩ (.bool true)).putObj D (.deferred none)).cell? ⟨r0, 0, none⟩ = some (.bool true) := z2.cell 0
        refine ⟨by simp, .inl ⟨_, _, rfl, run_takeDeferred k5, ?_⟩⟩
        refine ⟨.bool true, ?_, ?_⟩
        · simp [results, Try.results6, go_sem, q3]
        · exact ⟨rfl, (hbH.out.setCell (p := ⟨r0, 0, none⟩) hrw _).trans (belowK_b (w := w) (Nat.le_refl _) _ D _ _ (by omega) k5 rfl rfl)⟩
      case stop =>
        rintro D c T pre W _ _ _ h _
        exact h.elim
theorem filesPaths_walk (A : Option Addr) (len cap : Nat) (cs : List Cl) (w : World) (hl : cs.length = len) (hA : CallsAt w.heap.size w A cs) (hlen : len ≤ maxLen) (hB : ∀ x ∈ cs, ClB x) (hS : ∀ x ∈ cs, x.s.size ≤ reachBytes ∧ x.t.size ≤ reachBytes) :
    Calls Try.prog 6 #[.slice A len cap] w fun e w' => e = .returned (.bool true) ∧ Below w.heap.size w w' := callsIn_wide.1 (filesPaths_in A len cap cs w hl hA hlen hB hS)
end Go.Proofs.Ytohgecmbkjienaa
