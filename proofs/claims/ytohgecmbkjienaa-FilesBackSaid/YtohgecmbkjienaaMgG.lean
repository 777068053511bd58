/- Renamed and back, linked and unlinked: as plain data. No condition. -/
import Derived.Test.YtohgecmbkjienaaMgD
namespace Go.Proofs.Ytohgecmbkjienaa
open Go.RowKit Go.Shelf Go.PlainAid
set_option linter.unusedVariables false
set_option linter.unusedSimpArgs false
theorem pieces_flat : ∀ (l acc : List UInt8), ¬ 47 ∈ l → piecesGo acc l = if acc ++ l = [] then [] else [acc ++ l]
  | [], acc, _ => by
    unfold piecesGo
    rw [List.append_nil]
  | b :: l, acc, h => by
    have hb : b ≠ 47 := fun e => h (by rw [e]; exact List.mem_cons_self ..)
    have ih := pieces_flat l (acc ++ [b]) (fun h2 => h (List.mem_cons_of_mem _ h2))
    unfold piecesGo
    rw [if_neg hb, ih]
    simp
theorem pieces_one {s : ByteArray} (h : ¬ 47 ∈ s.data.toList) (h0 : s.size ≠ 0) : pieces s = [s] := by
  unfold pieces
  rw [pieces_flat _ _ h, List.nil_append, if_neg (fun e => h0 (by
    have : s.data.toList.length = s.size := by rw [Array.length_toList]; rfl
    rw [e] at this
    exact this.symm))]
  rfl
theorem slashed_no {s : ByteArray} (h : ¬ 47 ∈ s.data.toList) : slashed s = false := by
  unfold slashed
  cases hs : s.data.toList.getLast? with
  | none => rfl
  | some b =>
    have hb : b ∈ s.data.toList := List.mem_of_getLast? hs
    have hne : b ≠ 47 := fun e => h (e ▸ hb)
    simp [hne]
theorem begin_flat {s : ByteArray} (h : ¬ 47 ∈ s.data.toList) (h0 : s.size ≠ 0) (h1 : s.size ≤ 256) : beginM 1 s = (1, 0) := by
  unfold beginM
  rw [if_neg h0, if_neg (by omega)]
  split <;> rfl
section
variable {c : Nat} {f : Fs}
theorem ahead_flat {s : ByteArray} (h : ¬ 47 ∈ s.data.toList) (h0 : s.size ≠ 0) (h1 : s.size ≤ 256) : aheadM f 1 s = lastM f (1, s, 0) := by
  unfold aheadM
  rw [begin_flat h h0 h1, pieces_one h h0]
  rfl
theorem ahead_root {s : ByteArray} (hn : nameOK s) (he : enterM f 1 = 0) : aheadM f 1 s = (1, s, 0) := by
  obtain ⟨k1, k2, k3, k4, k5⟩ := hn
  rw [ahead_flat k5 (by omega) (by omega)]
  unfold lastM
  dsimp only
  rw [if_neg (fun h => h rfl), if_neg (fun h => h he), if_neg (fun h => by
    rcases h with h | h | h
    · omega
    · exact k3 h
    · exact k4 h), if_neg (by omega)]
theorem ahead_root' {s : ByteArray} (h : ¬ 47 ∈ s.data.toList) (hok : (aheadM f 1 s).2.2 = 0) : enterM f 1 = 0 ∧ nameOK s := by
  by_cases h0 : s.size = 0
  · exfalso
    unfold aheadM beginM at hok
    rw [if_pos h0] at hok
    simp at hok
  · by_cases h1 : s.size ≤ 256
    · rw [ahead_flat h h0 h1] at hok
      unfold lastM at hok
      dsimp only at hok
      rw [if_neg (fun h => h rfl)] at hok
      split at hok
      · rename_i h2
        exact absurd hok h2
      · rename_i h2
        split at hok
        · cases hok
        · rename_i h3
          split at hok
          · cases hok
          · rename_i h4
            exact ⟨by omega, by omega, by omega, fun e => h3 (.inr (.inl e)), fun e => h3 (.inr (.inr e)), h⟩
    · exfalso
      unfold aheadM beginM at hok
      rw [if_neg h0, if_pos (show 256 < s.size by omega)] at hok
      simp at hok
theorem node_one {R : Ino} (hR : f[0]? = some (some R)) : node f 1 = some R := by
  have := node_nat hR
  exact this
theorem isDir_one {R : Ino} (hR : f[0]? = some (some R)) (hd : R.isDir = true) : isDir f 1 = true := by
  unfold isDir
  rw [node_one hR]
  exact hd
theorem named_root {R : Ino} {x : ByteArray} {j : Nat} (hR : f[0]? = some (some R)) (hd : R.isDir = true) (hn : nameOK x) (he : enterM f 1 = 0) (hx : lookM R.ents x = j + 1) : namedM f 1 x = (1, x, j + 1, 0) := by
  unfold namedM
  rw [ahead_root hn he, isDir_one hR hd]
  dsimp only
  rw [if_neg (by decide), if_neg (fun h => h rfl), node_one hR]
  dsimp only
  rw [hx, if_neg (by omega)]
/-- From a name of the root to another one that isn't there. -/
theorem rename_root (hw : WF c f) {R : Ino} {x y : ByteArray} {j : Nat} (hR : f[0]? = some (some R)) (hn : nameOK x) (hn2 : nameOK y) (he : enterM f 1 = 0) (hm : R.may 2 = true) (hx : lookM R.ents x = j + 1) (hy : lookM R.ents y = 0) : RenameM f 1 x y = (0, renM f 1 x 1 y (j + 1)) := by
  obtain ⟨R', hR', hd, hl, hp⟩ := hw.root
  rw [hR] at hR'
  cases hR'
  have hk := hw.ino 0 R hR
  have hxm := lookM_mem (l := R.ents) (x := x) (by omega)
  rw [hx] at hxm
  obtain ⟨h2, J, hJ⟩ := hk.live _ hxm
  dsimp only at h2 hJ
  rw [Nat.add_sub_cancel] at hJ
  unfold RenameM
  rw [named_root hR hd hn he hx]
  dsimp only
  rw [if_neg (fun h => h rfl), node_nat hJ, node_one hR, show ((1 : Int)).toNat = 1 from rfl]
  dsimp only
  unfold ren1
  rw [slashed_no hn.2.2.2.2, ahead_root hn2 he, Bool.false_and, if_neg (by decide)]
  dsimp only
  rw [if_neg (fun h => h rfl), node_one hR]
  dsimp only
  unfold ren2
  rw [slashed_no hn2.2.2.2.2, Bool.false_and, if_neg (by decide), if_neg (by omega), hm, if_pos (by rfl), show ((1 : Int)).toNat = 1 from rfl]
  unfold ren3
  rw [hy, if_neg (by omega)]
  have hdep : dep f 1 = 0 := dep_eq Deep.root
  have h0 : mayReplaceM f (dep f 1) (j + 1) 0 1 = 0 := by
    unfold mayReplaceM
    rw [if_pos rfl, hdep]
    split
    · rw [if_neg (by unfold holdsM; simp; omega)]
    · rfl
  rw [h0, if_neg (fun h => h rfl), if_pos rfl]
theorem sorted_ext : ∀ {l l' : Ents}, Sorted (nms l) → Sorted (nms l') → (∀ e, e ∈ l ↔ e ∈ l') → l = l'
  | [], [], _, _, _ => rfl
  | [], e :: l', _, _, h => by have := (h e).2 (List.mem_cons_self ..); cases this
  | e :: l, [], _, _, h => by have := (h e).1 (List.mem_cons_self ..); cases this
  | e :: l, e' :: l', h1, h2, h => by
    obtain ⟨s1, m1⟩ := sorted_cons (show Sorted (e.1 :: nms l) from h1)
    obtain ⟨s2, m2⟩ := sorted_cons (show Sorted (e'.1 :: nms l') from h2)
    have hlt : ∀ u ∈ l, lt e.1 u.1 = true := fun u hu => m1 u.1 (List.mem_map.2 ⟨u, hu, rfl⟩)
    have hlt' : ∀ u ∈ l', lt e'.1 u.1 = true := fun u hu => m2 u.1 (List.mem_map.2 ⟨u, hu, rfl⟩)
    have hee : e = e' := by
      rcases List.mem_cons.1 ((h e).1 (List.mem_cons_self ..)) with k | k
      · exact k
      · rcases List.mem_cons.1 ((h e').2 (List.mem_cons_self ..)) with k2 | k2
        · exact k2.symm
        · have h3 := lt_trans (hlt' e k) (hlt e' k2)
          rw [lt_irrefl] at h3
          cases h3
    subst hee
    rw [sorted_ext s1 s2 (fun u => ⟨fun hu => ?_, fun hu => ?_⟩)]
    · rcases List.mem_cons.1 ((h u).1 (List.mem_cons_of_mem _ hu)) with k | k
      · subst k
        have := hlt u hu
        rw [lt_irrefl] at this
        cases this
      · exact k
    · rcases List.mem_cons.1 ((h u).2 (List.mem_cons_of_mem _ hu)) with k | k
      · subst k
        have := hlt' u hu
        rw [lt_irrefl] at this
        cases this
      · exact k
/-- Trees that are told alike. -/
theorem tree_same {f f' : Fs} (h : ∀ n : Nat, (node f (n : Int)).map (fun I => (I.kind, I.mode, I.data, I.ents)) = (node f' (n : Int)).map (fun I => (I.kind, I.mode, I.data, I.ents))) : ∀ (d n : Nat) (a : ByteArray), treeM f d n a = treeM f' d n a
  | 0, _, _ => rfl
  | d + 1, n, a => by
    have he : entsAt f n = entsAt f' n := by
      have := h n
      unfold entsAt
      cases h1 : node f (n : Int) <;> cases h2 : node f' (n : Int) <;> rw [h1, h2] at this <;> simp at this
      exact this.2.2.2
    rw [treeM, treeM, he]
    congr 1
    funext e
    have := h e.2
    unfold treeL
    cases h1 : node f (e.2 : Int) <;> cases h2 : node f' (e.2 : Int) <;> rw [h1, h2] at this <;> simp at this
    · rename_i I I'
      dsimp only
      have hd : I.isDir = I'.isDir := by unfold Ino.isDir; rw [this.1]
      have ht : teOf (a ++ e.1) I = teOf (a ++ e.1) I' := by unfold teOf; rw [this.1, this.2.1, this.2.2.1]
      rw [hd, ht, tree_same h d]
def zzT : ByteArray := ⟨#[122, 122, 122]⟩
theorem zz_ok : nameOK zzT := ⟨by decide, by decide, by decide, by decide, by decide⟩
/-- What isn't there by the name zzz, if one may look. -/
def NoZ (f : Fs) : Prop := enterM f 1 = 0 → ∃ R, f[0]? = some (some R) ∧ lookM R.ents zzT = 0
theorem noZ_of (hw : WF c f) (h : (WalkM f 1 zzT).2 = 2) : NoZ f := fun he => by
  obtain ⟨R, hR, hd, hl, hp⟩ := hw.root
  refine ⟨R, hR, ?_⟩
  unfold WalkM at h
  rw [if_pos (isDir_one hR hd)] at h
  unfold walkM at h
  rw [begin_flat zz_ok.2.2.2.2 (by decide) (by decide), pieces_one zz_ok.2.2.2.2 (by decide)] at h
  dsimp only at h
  rw [if_neg (fun h => h rfl)] at h
  have hs : stepM f 1 zzT = if lookM R.ents zzT = 0 then (0, 2) else ((lookM R.ents zzT : Int), 0) := by
    unfold stepM
    rw [if_neg (fun h => h he), node_one hR]
    dsimp only
    rw [if_neg zz_ok.2.2.1, if_neg zz_ok.2.2.2.1, if_neg (by decide)]
  rcases Nat.eq_zero_or_pos (lookM R.ents zzT) with h0 | h0
  · exact h0
  · exfalso
    rw [if_neg (by omega)] at hs
    have h2 : stepsM f 1 [zzT] = ((lookM R.ents zzT : Int), 0) := by
      unfold stepsM
      rw [hs]
      rfl
    rw [h2, slashed_no zz_ok.2.2.2.2] at h
    simp at h
end
end Go.Proofs.Ytohgecmbkjienaa
/- Renamed and back, linked and unlinked: the tree is as it was. No condition. -/
namespace Go.Proofs.Ytohgecmbkjienaa
open Go.RowKit Go.Shelf Go.PlainAid
set_option linter.unusedVariables false
set_option linter.unusedSimpArgs false
section
variable {c : Nat} {f : Fs}
theorem rename_root13 (hw : WF c f) {R : Ino} {x y : ByteArray} {j : Nat} (hR : f[0]? = some (some R)) (hn : nameOK x) (hn2 : nameOK y) (he : enterM f 1 = 0) (hm : R.may 2 = false) (hx : lookM R.ents x = j + 1) : RenameM f 1 x y = (13, f) := by
  obtain ⟨R', hR', hd, hl, hp⟩ := hw.root
  rw [hR] at hR'
  cases hR'
  have hk := hw.ino 0 R hR
  have hxm := lookM_mem (l := R.ents) (x := x) (by omega)
  rw [hx] at hxm
  obtain ⟨h2, J, hJ⟩ := hk.live _ hxm
  dsimp only at h2 hJ
  rw [Nat.add_sub_cancel] at hJ
  unfold RenameM
  rw [named_root hR hd hn he hx]
  dsimp only
  rw [if_neg (fun h => h rfl), node_nat hJ, node_one hR, show ((1 : Int)).toNat = 1 from rfl]
  dsimp only
  unfold ren1
  rw [slashed_no hn.2.2.2.2, ahead_root hn2 he, Bool.false_and, if_neg (by decide)]
  dsimp only
  rw [if_neg (fun h => h rfl), node_one hR]
  dsimp only
  unfold ren2
  rw [slashed_no hn2.2.2.2.2, Bool.false_and, if_neg (by decide), if_neg (by omega), hm, if_neg (by simp)]
theorem set_at {i : Nat} {o : Option Ino} {x : Option Ino} (hi : f[i]? = some o) (k : Nat) : (f.set i x)[k]? = if k = i then some x else f[k]? := by
  by_cases e : k = i
  · rw [if_pos e, e, List.getElem?_set_self (List.getElem?_eq_some_iff.1 hi).1]
  · rw [if_neg e, List.getElem?_set_ne (fun h => e h.symm)]
theorem renM_get {R J : Ino} {x y : ByteArray} {j : Nat} (hR : f[0]? = some (some R)) (hJ : f[j]? = some (some J)) (hj : j ≠ 0) (k : Nat) : (renM f 1 x 1 y (j + 1))[k]? = if k = j then some (some { J with parent := 1 }) else if k = 0 then some (some { R with ents := addM (remM R.ents x) y (j + 1) }) else f[k]? := by
  have h1 : setEnts f 1 (fun l => remM l x) = f.set 0 (some { R with ents := remM R.ents x }) := setEnts_at (i := 0) hR _
  have g1 : (f.set 0 (some { R with ents := remM R.ents x }))[0]? = some (some { R with ents := remM R.ents x }) := set_get hR
  have h2 : setEnts (f.set 0 (some { R with ents := remM R.ents x })) 1 (fun l => addM l y (j + 1)) = (f.set 0 (some { R with ents := remM R.ents x })).set 0 (some { R with ents := addM (remM R.ents x) y (j + 1) }) := setEnts_at (i := 0) g1 _
  have g2 : ((f.set 0 (some { R with ents := remM R.ents x })).set 0 (some { R with ents := addM (remM R.ents x) y (j + 1) }))[j]? = some (some J) := by
    rw [set_at g1, if_neg hj, set_at hR, if_neg hj]
    exact hJ
  unfold renM
  rw [h1, h2, show ((j + 1 : Nat) : Int) = (j : Int) + 1 by omega, modN_at g2, set_at g2]
  by_cases e : k = j
  · rw [if_pos e, if_pos e]
  · rw [if_neg e, if_neg e, set_at g1]
    by_cases e2 : k = 0
    · rw [if_pos e2, if_pos e2]
    · rw [if_neg e2, if_neg e2, set_at hR, if_neg e2]
theorem ren_ok (hw : WF c f) {s : ByteArray} (h47 : ¬ 47 ∈ s.data.toList) (hok : (RenameM f 1 s zzT).1 = 0) : ∃ R j J, f[0]? = some (some R) ∧ R.isDir = true ∧ f[j]? = some (some J) ∧ j ≠ 0 ∧ nameOK s ∧ enterM f 1 = 0 ∧ R.may 2 = true ∧ lookM R.ents s = j + 1 := by
  obtain ⟨R, hR, hd, hl, hp⟩ := hw.root
  have h0 : (namedM f 1 s).2.2.2 = 0 := by
    rcases Nat.eq_zero_or_pos (namedM f 1 s).2.2.2 with h | h
    · exact h
    · exfalso
      unfold RenameM at hok
      rw [if_pos (by omega)] at hok
      dsimp only at hok
      omega
  have h1 : (aheadM f 1 s).2.2 = 0 := by
    rcases Nat.eq_zero_or_pos (aheadM f 1 s).2.2 with h | h
    · exact h
    · exfalso
      unfold namedM at h0
      rw [isDir_one hR hd, if_neg (by decide), if_pos (by omega)] at h0
      dsimp only at h0
      omega
  obtain ⟨he, hn⟩ := ahead_root' h47 h1
  have hx : lookM R.ents s ≠ 0 := fun h => by
    unfold namedM at h0
    rw [isDir_one hR hd, ahead_root hn he, if_neg (by decide)] at h0
    dsimp only at h0
    rw [if_neg (fun h => h rfl), node_one hR] at h0
    dsimp only at h0
    rw [if_pos h] at h0
    cases h0
  obtain ⟨j, hj⟩ : ∃ j, lookM R.ents s = j + 1 := ⟨lookM R.ents s - 1, by omega⟩
  have hxm := lookM_mem hx
  rw [hj] at hxm
  obtain ⟨h2, J, hJ⟩ := (hw.ino 0 R hR).live _ hxm
  dsimp only at h2 hJ
  rw [Nat.add_sub_cancel] at hJ
  refine ⟨R, j, J, hR, hd, hJ, by omega, hn, he, ?_, hj⟩
  cases hm : R.may 2 with
  | true => rfl
  | false =>
    rw [rename_root13 hw hR hn zz_ok he hm hj] at hok
    cases hok
/-- Renamed and back. -/
theorem ren_back (hw : WF c f) {s : ByteArray} (h47 : ¬ 47 ∈ s.data.toList) (hz : NoZ f) (hok : (RenameM f 1 s zzT).1 = 0) :
    (RenameM (RenameM f 1 s zzT).2 1 zzT s).1 = 0 ∧ TreeM (RenameM (RenameM f 1 s zzT).2 1 zzT s).2 = TreeM f ∧ NoZ (RenameM (RenameM f 1 s zzT).2 1 zzT s).2 := by
  obtain ⟨R, j, J, hR, hd, hJ, hj0, hn, he, hm, hx⟩ := ren_ok hw h47 hok
  obtain ⟨R', hR', hzl⟩ := hz he
  rw [hR] at hR'
  cases hR'
  have hk := hw.ino 0 R hR
  have hw1 := rename_wf hw 1 s zzT
  rw [rename_root hw hR hn zz_ok he hm hx hzl] at hw1 ⊢
  dsimp only at hw1 ⊢
  have hne : s ≠ zzT := fun e => by rw [e, hzl] at hx; omega
  have g1 := fun k => renM_get (x := s) (y := zzT) hR hJ hj0 k
  obtain ⟨F, hF⟩ : ∃ F, renM f 1 s 1 zzT (j + 1) = F := ⟨_, rfl⟩
  rw [hF] at hw1 g1 ⊢
  have hR1 : F[0]? = some (some { R with ents := addM (remM R.ents s) zzT (j + 1) }) := by rw [g1, if_neg (Ne.symm hj0), if_pos rfl]
  have hJ1 : F[j]? = some (some { J with parent := 1 }) := by rw [g1, if_pos rfl]
  have hk1 := hw1.ino 0 _ hR1
  have he1 : enterM F 1 = 0 := by
    unfold enterM at he ⊢
    rw [node_one hR] at he
    rw [node_one hR1]
    exact he
  have hx1 : lookM (addM (remM R.ents s) zzT (j + 1)) zzT = j + 1 := lookM_of hk1.srt (addM_mem.2 (.inl rfl))
  have hy1 : lookM (addM (remM R.ents s) zzT (j + 1)) s = 0 := by
    rcases Nat.eq_zero_or_pos (lookM (addM (remM R.ents s) zzT (j + 1)) s) with h | h
    · exact h
    · exfalso
      rcases addM_mem.1 (lookM_mem (l := addM (remM R.ents s) zzT (j + 1)) (x := s) (by omega)) with h2 | h2
      · exact hne (congrArg Prod.fst h2)
      · exact ((remM_mem hk.srt).1 h2).2 rfl
  have hm1 : ({ R with ents := addM (remM R.ents s) zzT (j + 1) } : Ino).may 2 = true := hm
  have hw2 := rename_wf hw1 1 zzT s
  rw [rename_root hw1 hR1 zz_ok hn he1 hm1 hx1 hy1] at hw2 ⊢
  dsimp only at hw2 ⊢
  have g2 := fun k => renM_get (x := zzT) (y := s) hR1 hJ1 hj0 k
  obtain ⟨G, hG⟩ : ∃ G, renM F 1 zzT 1 s (j + 1) = G := ⟨_, rfl⟩
  rw [hG] at hw2 g2 ⊢
  have hR2 : G[0]? = some (some { R with ents := addM (remM (addM (remM R.ents s) zzT (j + 1)) zzT) s (j + 1) }) := by rw [g2, if_neg (Ne.symm hj0), if_pos rfl]
  have hents : addM (remM (addM (remM R.ents s) zzT (j + 1)) zzT) s (j + 1) = R.ents := by
    refine sorted_ext (hw2.ino 0 _ hR2).srt hk.srt (fun u => ?_)
    rw [addM_mem, remM_mem hk1.srt, addM_mem, remM_mem hk.srt]
    have hxm := lookM_mem (l := R.ents) (x := s) (by omega)
    rw [hx] at hxm
    constructor
    · rintro (h | ⟨h | h, h2⟩)
      · rw [h]
        exact hxm
      · rw [h] at h2
        exact absurd rfl h2
      · exact h.1
    · intro h
      by_cases e : u.1 = s
      · exact .inl (sorted_inj hk.srt h hxm e)
      · refine .inr ⟨.inr ⟨h, e⟩, fun e2 => ?_⟩
        have h3 := lookM_of hk.srt (x := u.1) (n := u.2) h
        rw [e2, hzl] at h3
        have := (hk.live u h).1
        omega
  rw [hents] at hR2
  refine ⟨rfl, tree_same (fun n => ?_) 102 1 ⟨#[]⟩, fun _ => ⟨_, hR2, hzl⟩⟩
  cases n with
  | zero => rfl
  | succ k =>
    rw [show ((k + 1 : Nat) : Int) = (k : Int) + 1 by omega, node_succ, node_succ]
    by_cases e : k = j
    · subst e
      rw [g2, if_pos rfl, hJ]
      rfl
    · by_cases e2 : k = 0
      · subst e2
        rw [hR2, hR]
      · rw [g2, if_neg e, if_neg e2, g1, if_neg e, if_neg e2]
/-- Linked and unlinked. -/
theorem link_back (hw : WF c f) {s : ByteArray} (h47 : ¬ 47 ∈ s.data.toList) (hz : NoZ f) (hok : (LinkM f 1 s zzT).1 = 0) :
    (UnlinkM (LinkM f 1 s zzT).2 1 zzT).1 = 0 ∧ (UnlinkM (LinkM f 1 s zzT).2 1 zzT).2 = f := by
  obtain ⟨R, hR, hd, hl, hp⟩ := hw.root
  have hk := hw.ino 0 R hR
  have hw1 := link_wf hw 1 s zzT
  have h1 : (WalkM f 1 s).2 = 0 := by
    rcases Nat.eq_zero_or_pos (WalkM f 1 s).2 with h | h
    · exact h
    · exfalso
      unfold LinkM at hok
      rw [if_pos (by omega)] at hok
      dsimp only at hok
      omega
  have h2 : isDir f (WalkM f 1 s).1 = false := by
    cases h : isDir f (WalkM f 1 s).1 with
    | false => rfl
    | true =>
      unfold LinkM at hok
      rw [if_neg (by omega), if_pos h] at hok
      cases hok
  have h3 : (aheadM f 1 zzT).2.2 = 0 := by
    rcases Nat.eq_zero_or_pos (aheadM f 1 zzT).2.2 with h | h
    · exact h
    · exfalso
      unfold LinkM at hok
      rw [if_neg (by omega), if_neg (by rw [h2]; decide), if_pos (by omega)] at hok
      dsimp only at hok
      omega
  obtain ⟨he, _⟩ := ahead_root' zz_ok.2.2.2.2 h3
  have ha := ahead_root zz_ok he
  obtain ⟨R', hR', hzl⟩ := hz he
  rw [hR] at hR'
  cases hR'
  have h4 : mayAddM f 1 zzT = 0 := by
    rcases Nat.eq_zero_or_pos (mayAddM f 1 zzT) with h | h
    · exact h
    · exfalso
      unfold LinkM at hok
      rw [if_neg (by omega), if_neg (by rw [h2]; decide), ha] at hok
      dsimp only at hok
      rw [if_neg (fun h => h rfl), slashed_no zz_ok.2.2.2.2, if_neg (by decide), if_pos (by omega)] at hok
      dsimp only at hok
      omega
  obtain ⟨_, _, hm⟩ := mayAdd_ok (node_one hR) h4
  -- what is walked to
  obtain ⟨j, J, hj, hJ, hJd, hj0, hJl⟩ : ∃ (j : Nat) (J : Ino), (WalkM f 1 s).1 = (j : Int) + 1 ∧ f[j]? = some (some J) ∧ J.isDir = false ∧ j ≠ 0 ∧ 1 ≤ J.links := by
    obtain ⟨J, hJ⟩ := Option.isSome_iff_exists.1 (walk_live hw.closed h1)
    obtain ⟨j, ej, _, hj⟩ := node_some hJ
    have hJd : J.isDir = false := by
      unfold isDir at h2
      rw [hJ] at h2
      exact h2
    have hj0 : j ≠ 0 := fun e => by
      subst e
      rw [hR] at hj
      cases hj
      rw [hd] at hJd
      cases hJd
    refine ⟨j, J, ej, hj, hJd, hj0, ?_⟩
    unfold WalkM at h1 ej
    rw [if_pos (isDir_one hR hd)] at h1 ej
    unfold walkM at h1 ej
    by_cases hs0 : s.size = 0
    · exfalso
      unfold beginM at h1
      rw [if_pos hs0] at h1
      simp at h1
    · by_cases hs1 : s.size ≤ 256
      · rw [begin_flat h47 hs0 hs1, pieces_one h47 hs0] at h1 ej
        dsimp only at h1 ej
        rw [if_neg (fun h => h rfl)] at h1 ej
        have hst : stepsM f 1 [s] = if (stepM f 1 s).2 ≠ 0 then (0, (stepM f 1 s).2) else ((stepM f 1 s).1, 0) := by
          unfold stepsM
          rfl
        by_cases hs2 : (stepM f 1 s).2 ≠ 0
        · rw [if_pos hs2] at hst
          rw [hst] at h1
          dsimp only at h1
          rw [if_pos hs2] at h1
          exact absurd h1 hs2
        · rw [if_neg hs2] at hst
          rw [hst] at ej h1
          dsimp only at ej h1
          rw [if_neg (fun h => h rfl), slashed_no h47, Bool.false_and, if_neg (by decide)] at ej
          dsimp only at ej
          unfold stepM at ej hs2
          rw [if_neg (fun h => h he), node_one hR] at ej hs2
          dsimp only at ej hs2
          by_cases c1 : s = dotT
          · rw [if_pos c1, if_neg (by decide)] at ej
            dsimp only at ej
            omega
          · rw [if_neg c1] at ej hs2
            by_cases c2 : s = dotsT
            · rw [if_pos c2, hl, hp, if_pos (by decide)] at ej
              dsimp only at ej
              omega
            · rw [if_neg c2] at ej hs2
              by_cases c3 : 32 < s.size
              · rw [if_pos c3] at hs2
                exact absurd (by decide) hs2
              · rw [if_neg c3] at ej hs2
                by_cases c4 : lookM R.ents s = 0
                · rw [if_pos c4] at hs2
                  exact absurd (by decide) hs2
                · rw [if_neg c4] at ej
                  dsimp only at ej
                  exact hw.linked 0 R s j J hR (by omega) hj
      · exfalso
        unfold beginM at h1
        rw [if_neg hs0, if_pos (show 256 < s.size by omega)] at h1
        simp at h1
  have hL : LinkM f 1 s zzT = (0, setLinks (setEnts f 1 (fun l => addM l zzT (j + 1))) (j + 1) (· + 1)) := by
    unfold LinkM
    rw [if_neg (by omega), if_neg (by rw [h2]; decide), ha]
    dsimp only
    rw [if_neg (fun h => h rfl), slashed_no zz_ok.2.2.2.2, if_neg (by decide), h4, if_neg (fun h => h rfl), hj, show ((j : Int) + 1).toNat = j + 1 by omega, show ((1 : Int)).toNat = 1 from rfl]
  rw [hL] at hw1 ⊢
  dsimp only at hw1 ⊢
  have e1 : setEnts f 1 (fun l => addM l zzT (j + 1)) = f.set 0 (some { R with ents := addM R.ents zzT (j + 1) }) := setEnts_at (i := 0) hR _
  have g1 : (f.set 0 (some { R with ents := addM R.ents zzT (j + 1) }))[j]? = some (some J) := by rw [set_at hR, if_neg hj0]; exact hJ
  rw [e1, setLinks_at g1] at hw1 ⊢
  obtain ⟨F, hF⟩ : ∃ F, (f.set 0 (some { R with ents := addM R.ents zzT (j + 1) })).set j (some { J with links := J.links + 1 }) = F := ⟨_, rfl⟩
  have gF : ∀ k, F[k]? = if k = j then some (some { J with links := J.links + 1 }) else if k = 0 then some (some { R with ents := addM R.ents zzT (j + 1) }) else f[k]? := fun k => by
    rw [← hF, set_at g1]
    by_cases e : k = j
    · rw [if_pos e, if_pos e]
    · rw [if_neg e, if_neg e, set_at hR]
  rw [hF] at hw1 ⊢
  have hR1 : F[0]? = some (some { R with ents := addM R.ents zzT (j + 1) }) := by rw [gF, if_neg (Ne.symm hj0), if_pos rfl]
  have hJ1 : F[j]? = some (some { J with links := J.links + 1 }) := by rw [gF, if_pos rfl]
  have hk1 := hw1.ino 0 _ hR1
  have hx1 : lookM (addM R.ents zzT (j + 1)) zzT = j + 1 := lookM_of hk1.srt (addM_mem.2 (.inl rfl))
  have he1 : enterM F 1 = 0 := by
    unfold enterM at he ⊢
    rw [node_one hR] at he
    rw [node_one hR1]
    exact he
  have hd1 : ({ R with ents := addM R.ents zzT (j + 1) } : Ino).isDir = true := hd
  have hU : UnlinkM F 1 zzT = (0, unlinkM F 1 zzT) := by
    unfold UnlinkM
    rw [named_root hR1 hd1 zz_ok he1 hx1]
    dsimp only
    rw [if_neg (fun h => h rfl), node_nat hJ1, node_one hR1]
    dsimp only
    rw [slashed_no zz_ok.2.2.2.2, Bool.false_and, if_neg (by decide), if_neg (by show ¬ J.isDir = true; rw [hJd]; decide), if_pos (show ({ R with ents := addM R.ents zzT (j + 1) } : Ino).may 2 = true from hm), show ((1 : Int)).toNat = 1 from rfl]
  rw [hU]
  refine ⟨rfl, ?_⟩
  dsimp only
  have hu : unlinkM F 1 zzT = relM (setLinks (setEnts F 1 (fun l => remM l zzT)) (j + 1) (· - 1)) (j + 1) := unlinkM_eq (i := 0) hR1 hx1
  have hents : remM (addM R.ents zzT (j + 1)) zzT = R.ents := by
    refine sorted_ext (remM_sorted hk1.srt zzT) hk.srt (fun u => ?_)
    rw [remM_mem hk1.srt, addM_mem]
    constructor
    · rintro ⟨h | h, h2⟩
      · rw [h] at h2
        exact absurd rfl h2
      · exact h
    · intro h
      refine ⟨.inr h, fun e2 => ?_⟩
      have h3 := lookM_of hk.srt (x := u.1) (n := u.2) h
      rw [e2, hzl] at h3
      have := (hk.live u h).1
      omega
  have e2 : setEnts F 1 (fun l => remM l zzT) = F.set 0 (some R) := by
    have h5 := setEnts_at (i := 0) hR1 (fun l => remM l zzT)
    rw [show ({ ({ R with ents := addM R.ents zzT (j + 1) } : Ino) with ents := remM (addM R.ents zzT (j + 1)) zzT } : Ino) = R by rw [hents]] at h5
    exact h5
  have g2 : (F.set 0 (some R))[j]? = some (some { J with links := J.links + 1 }) := by rw [set_at hR1, if_neg hj0]; exact hJ1
  have g3 : ((F.set 0 (some R)).set j (some J))[j]? = some (some J) := set_get g2
  have e3 : setLinks (F.set 0 (some R)) (j + 1) (· - 1) = (F.set 0 (some R)).set j (some J) := setLinks_at g2 _
  rw [hu, e2, e3, relM_at g3, if_neg (fun h => by omega)]
  refine List.ext_getElem? (fun k => ?_)
  rw [set_at g2]
  by_cases e : k = j
  · rw [if_pos e, e, hJ]
  · rw [if_neg e, set_at hR1]
    by_cases e5 : k = 0
    · rw [if_pos e5, e5, hR]
    · rw [if_neg e5, gF, if_neg e, if_neg e5]
end
end Go.Proofs.Ytohgecmbkjienaa
/- The walk of FilesBack. Condition: the calls lie as stated; the texts' sizes. -/
namespace Go.Proofs.Ytohgecmbkjienaa
open Go.RowKit Go.Shelf Go.PlainAid
set_option linter.unusedVariables false
set_option linter.unusedSimpArgs false
attribute [local go_sem] Oper.semAt_some
/-- A tree of the call's own, and a row that lies apart from it. -/
def OwnR (w0 w : World) (p : Nat) (f : Fs) (n₀ : Nat) (v : Value) (l : List Te) : Prop :=
  ∃ B, FsIs w B p f ∧ (∀ g, All B g → False ∨ w0.heap.size ≤ g) ∧ Frm (fun _ => False) w0 w ∧ w.ownsRow n₀ 56 4 v l.length (flat tecs l) ∧ ∀ g, v.ownBlock = some g → ¬ All B g
section
variable {w0 w W : World} {p c n₀ : Nat} {f : Fs} {v : Value} {l : List Te}
theorem OwnR.own (h : OwnR w0 w p f n₀ v l) : Own w0 w p f := by
  obtain ⟨B, h1, h2, h3, _⟩ := h
  exact ⟨B, h1, h2, h3⟩
theorem OwnR.row (h : OwnR w0 w p f n₀ v l) : w.ownsRow n₀ 56 4 v l.length (flat tecs l) := by
  obtain ⟨B, _, _, _, h4, _⟩ := h
  exact h4
theorem Own.treeR (h : Own w0 w p f) (hw : WF c f) (hc : c ≤ 5000) : Calls Try.prog 11 #[.pointer (some ⟨p, 0, none⟩)] w fun e w' => ∃ v, e = .returned v ∧ OwnR w0 w' p f w.heap.size v (TreeM f) := by
  obtain ⟨B, ⟨sv, ps, h1⟩, h2, h3⟩ := h
  exact (callsIn_wide.1 (tree_any_in 3 (Nat.le_refl _) h1 hw hc)).mono fun e w' ⟨v, h7, h8, h9⟩ => ⟨v, h7, B, ⟨sv, ps, h1.below h9⟩, h2, h3.below h9, h8, fun g hg ⟨i, hi⟩ => by
    have := row_ge h8 hg
    have := h1.lt i g hi
    omega⟩
theorem OwnR.below (h : OwnR w0 w p f n₀ v l) {w' : World} (hb : Below w.heap.size w w') : OwnR w0 w' p f n₀ v l := by
  obtain ⟨B, h1, h2, h3, h4, h5⟩ := h
  exact ⟨B, h1.below hb, h2, h3.below hb, row_beneath h4 hb, h5⟩
theorem OwnR.calls {f' : Fs} {F : Nat} {args : Array Value} {R : Ending → Prop} (h : OwnR w0 w p f n₀ v l) (k : ∀ B sv ps, FsAt w B p f sv ps → Calls Try.prog F args w fun e w' => R e ∧ FsP (All B) w w' p f') : Calls Try.prog F args w fun e w' => R e ∧ OwnR w0 w' p f' n₀ v l := by
  obtain ⟨B, ⟨sv, ps, h1⟩, h2, h3, h4, h5⟩ := h
  refine (k B sv ps h1).mono fun e w' ⟨h9, B', k1, k2, k3⟩ => ⟨h9, B', k1, fun g hg => (k2 g hg).elim (h2 g) (fun k => .inr (Nat.le_trans h3.size k)), h3.trans (fun g hg => h2 g hg) k3, row_keep h4 (fun g hg => k3.block g (row_lt h4 hg) (h5 g hg)), fun g hg hg2 => ?_⟩
  rcases k2 g hg2 with k4 | k4
  · exact h5 g hg k4
  · have := row_lt h4 hg
    omega
end
set_option maxRecDepth 100000 in
set_option maxHeartbeats 16000000 in
theorem filesBack_walk (A : Option Addr) (len cap : Nat) (cs : List Cl) (d : ByteArray) (w : World) (hl : cs.length = len) (hA : CallsAt w.heap.size w A cs) (hlen : len ≤ maxLen) (hB : ∀ x ∈ cs, ClB x) (hS : ∀ x ∈ cs, x.s.size ≤ reachBytes ∧ x.t.size ≤ reachBytes) (hd : d.size ≤ maxLen) :
    Calls Try.prog 7 #[.slice A len cap, .string d] w fun e w' => e = .returned (.bool true) ∧ Below w.heap.size w w' := by
  unfold maxLen at hlen
  have hAH := Lib.hid hA
  have hBH := Lib.hid hB
  have hSH := Lib.hid hS
  have hlH := Lib.hid hl
  have hdH := Lib.hid hd
  clear hA hB hS hl
  go_enter Try.func7, Try.ntmps7
  go_wp2_with fail
  refine (awake_any w).mono ?_
  rintro e w1 ⟨rfl, hB1⟩
  go_wp2_with fail
  refine (new_own w1).mono ?_
  rintro e w2 ⟨rfl, hO2⟩
  have hO := FsP.after hB1 hO2
  obtain ⟨p, hp⟩ : ∃ p, w1.heap.size = p := ⟨_, rfl⟩
  rw [hp] at hO ⊢
  have hOH := Lib.hid (show Own w w2 p newM from hO)
  clear hO2 hB1 hp hO
  go_upto_block 0 with fail
  go_cut [] (fun wx => ∃ f, Hid (WF 60 f) ∧ Hid (Own w wx p f))
  case first =>
    go_wp2_with fail
    go_loopw [17] (fun s17 wr => ∃ (i : Nat) (f : Fs), i ≤ len ∧ i ≤ 60 ∧ s17 = .int .i64 i ∧ Hid (WF i f) ∧ Hid (Own w wr p f)) (fun s17 _ => len - (intOf s17).toNat)
    case atStart => exact ⟨0, newM, Nat.zero_le _, Nat.zero_le _, rfl, Lib.hid new_wf, hOH⟩
    case round =>
      obtain ⟨i, f, hi, hi2, rfl, hW, hOr⟩ := hrel
      by_cases hil : i < len
      · obtain ⟨x, hx⟩ : ∃ x, cs[i]? = some x := ⟨_, List.getElem?_eq_getElem (by have := hlH.out; omega)⟩
        obtain ⟨b, off, rfl, hb, e0, e1, e2, e3, e4, e5⟩ := (hAH.out.below hOr.out.toBelow).at hx
        obtain ⟨q, N, M, K, s, t⟩ := x
        dsimp only at e0 e1 e2 e3 e4 e5
        have hxm := List.mem_of_getElem? hx
        have hxb := hBH.out _ hxm
        have hxs := (hSH.out _ hxm)
        obtain ⟨k1, k2, k3, k4, k6, k7⟩ := hxb
        dsimp only at k1 k2 k3 k4 k6 k7 hxs
        have k9 : t.size ≤ 9000000000000000000 := by have := hxs.2; have := reachBytes_lt; omega
        obtain ⟨q0, hq0⟩ : ∃ q0, wr.heap.size = q0 := ⟨_, rfl⟩
        obtain ⟨W1, hW1⟩ : ∃ W1, wr.alloc (.cells #[.int .i64 q, .int .i64 N, .int .i64 M, .int .i64 K, .string s, .string t] 27) = W1 := ⟨_, rfl⟩
        have hb1 : Below wr.heap.size wr W1 := by rw [← hW1]; exact alB _ _
        have hC1 : Blk W1 q0 27 #[.int .i64 q, .int .i64 N, .int .i64 M, .int .i64 K, .string s, .string t] := by rw [← hW1]; exact newB _ _ _ hq0
        have d0 : W1.cell? ⟨q0, 0, none⟩ = some (.int .i64 q) := hC1.cell 0
        have d1 : W1.cell? ⟨q0, 1, none⟩ = some (.int .i64 N) := hC1.cell 1
        have d2 : W1.cell? ⟨q0, 2, none⟩ = some (.int .i64 M) := hC1.cell 2
        have d3 : W1.cell? ⟨q0, 3, none⟩ = some (.int .i64 K) := hC1.cell 3
        have d4 : W1.cell? ⟨q0, 4, none⟩ = some (.string s) := hC1.cell 4
        have d5 : W1.cell? ⟨q0, 5, none⟩ = some (.string t) := hC1.cell 5
        have hO1 := Lib.hid (hOr.out.below hb1)
        have hK := Lib.hid (show s.size ≤ maxLen ∧ t.size ≤ maxLen ∧ t.size ≤ 9000000000000000000 from ⟨k1, k2, k9⟩)
        clear hx hb1 hxm hxs k1 k2 k9 hC1 hOH
        by_cases hk3 : i = 60
        · subst hk3
          go_wp2_with (first | rw [hW1] | rw [hq0])
          go_meet
          exact ⟨f, hW, hO1⟩
        · have hk5 : ((i : Int) == 60) = false := by simp; omega
          have hwf := Lib.hid (step_wf hW.out q N M K s t)
          have hask := Lib.hid (hO1.out.askX hW.out (by omega) (Below.refl _ _) q N M K s t hK.out.1 hK.out.2.1 hK.out.2.2)
          go_wp2_with (first | rw [hW1] | rw [hq0])
          refine hask.out.mono ?_
          rintro E w5 ⟨⟨nn, xx, s0, s1, s2, s3, s4, yy, rfl⟩, hO5, _⟩
          have hO5H := Lib.hid hO5
          clear hO5 hask
          go_wp2_with fail
          go_roundw
          case rel => exact ⟨i + 1, _, by omega, by omega, by go_num, hwf, hO5H⟩
          case measure => simp [intOf]; omega
      · obtain rfl : i = len := by omega
        go_wp2_with fail
        go_meet
        exact ⟨f, Lib.hid (hW.out.mono hi2), hOr⟩
  case rest =>
    obtain ⟨f, hW, hO⟩ := hcut
    have htr := Lib.hid (Own.treeR hO.out hW.out (by omega))
    clear hOH
    go_wp2_with fail
    refine htr.out.mono ?_
    rintro e w3 ⟨v, rfl, hR⟩
    have hRH := Lib.hid hR
    have hwk : Calls Try.prog 24 #[.pointer (some ⟨p, 0, none⟩), .int .i64 1, .string zzT] w3 fun e w' => e = .returned (.tuple #[.int .i64 (WalkM f 1 zzT).1, .int .i64 (WalkM f 1 zzT).2]) ∧ Below w3.heap.size w3 w' := by
      obtain ⟨B, ⟨sv, ps, h1⟩, _⟩ := hR
      exact Walk_any h1 (hW.out.fine (by omega)) hW.out.closed 1 zzT (by unfold maxLen; decide)
    obtain ⟨we, hwe⟩ : ∃ z, (WalkM f 1 zzT).2 = z := ⟨_, rfl⟩
    obtain ⟨wn, hwn⟩ : ∃ z, (WalkM f 1 zzT).1 = z := ⟨_, rfl⟩
    rw [hwe, hwn] at hwk
    have hwkH := Lib.hid hwk
    have hweH := Lib.hid hwe
    clear hR hwk hwe hwn htr
    go_wp2_with fail
    refine hwkH.out.mono ?_
    rintro e w4 ⟨rfl, hb4⟩
    have hR4 := Lib.hid (hRH.out.below hb4)
    clear hb4
    by_cases hz2 : we = 2
    · have hNZ := Lib.hid (noZ_of hW.out (by rw [hweH.out]; exact hz2))
      subst hz2
      obtain ⟨n, hn⟩ : ∃ n, d.size = n := ⟨_, rfl⟩
      have hnH := Lib.hid hn
      have hn9 : n ≤ 9223372036854775807 := by have := hdH.out; unfold maxLen at this; omega
      go_wp2_with fail
      go_loopw [11] (fun s11 wr => ∃ i : Nat, i ≤ n ∧ s11 = .int .i64 i ∧ w4 = wr ∧ Hid (∀ b ∈ d.data.toList.take i, b ≠ 47)) (fun s11 _ => n - (intOf s11).toNat)
      case atStart => exact ⟨0, Nat.zero_le _, rfl, rfl, Lib.hid (fun b hb => by simp at hb)⟩
      case round =>
        obtain ⟨i, hi, rfl, rfl, h47⟩ := hrel
        by_cases hlt : i < n
        · obtain ⟨b, hb⟩ : ∃ b, d[i]'(by omega) = b := ⟨_, rfl⟩
          have hbl : d.data.toList[i]? = some b := by
            rw [← hb]
            have : i < d.data.toList.length := by rw [Array.length_toList]; show i < d.size; omega
            rw [List.getElem?_eq_getElem this]
            rfl
          have htk : d.data.toList.take (i + 1) = d.data.toList.take i ++ [b] := by
            obtain ⟨h1, h2⟩ := List.getElem?_eq_some_iff.1 hbl
            rw [List.take_succ_eq_append_getElem h1, h2]
          have htkH := Lib.hid htk
          have hbH := Lib.hid hb
          clear htk hbl
          by_cases hb47 : b = 47
          · have xb : ((((d[i]'(by omega)).toNat : Nat) : Int) == 47) = true := by rw [hb, hb47]; rfl
            clear hb
            go_wp2_with fail
            go_ret
            exact ⟨rfl, hR4.out.own.toBelow⟩
          · have xb : ((((d[i]'(by omega)).toNat : Nat) : Int) == 47) = false := by
              rw [hb]
              refine beq_eq_false_iff_ne.2 (fun e => hb47 ?_)
              have e2 : b.toNat = 47 := by omega
              exact UInt8.toNat_inj.1 (by rw [e2]; rfl)
            clear hb
            go_wp2_with fail
            go_roundw
            case rel => exact ⟨i + 1, by omega, by go_num, trivial, Lib.hid (by
              rw [htkH.out]
              intro u hu
              rcases List.mem_append.1 hu with hu | hu
              · exact h47.out u hu
              · rw [List.mem_singleton.1 hu]
                exact hb47)⟩
            case measure => simp [intOf]; omega
        · obtain rfl : i = n := by omega
          have h47a : Hid (¬ 47 ∈ d.data.toList) := Lib.hid (fun hm => h47.out 47 (by rw [List.take_of_length_le (by rw [Array.length_toList]; show d.size ≤ _; omega)]; exact hm) rfl)
          have hzs : zzT.size ≤ maxLen := by unfold maxLen; decide
          have hr1 := Lib.hid (hR4.out.calls (F := 27) (args := #[.pointer (some ⟨p, 0, none⟩), .int .i64 1, .string d, .string zzT]) (R := fun e => e = .returned (.int .i64 (RenameM f 1 d zzT).1)) (fun B sv ps h1 => rename_any h1 hW.out (by omega) 1 d zzT hdH.out hzs))
          have hw1 := Lib.hid (rename_wf hW.out 1 d zzT)
          have hsm := Lib.hid (fun (h : (RenameM f 1 d zzT).1 ≠ 0) => show (RenameM f 1 d zzT).2 = f from step_err hW.out 6 1 0 0 d zzT (.inl h))
          have hbk := Lib.hid (fun (h : (RenameM f 1 d zzT).1 = 0) => ren_back hW.out h47a.out hNZ.out h)
          obtain ⟨er, her⟩ : ∃ z, (RenameM f 1 d zzT).1 = z := ⟨_, rfl⟩
          obtain ⟨F, hF⟩ : ∃ z, (RenameM f 1 d zzT).2 = z := ⟨_, rfl⟩
          rw [her, hF] at hr1 hsm
          rw [her, hF] at hbk
          rw [hF] at hw1
          clear her hF
          go_wp2_with fail
          refine hr1.out.mono ?_
          rintro e w5 ⟨rfl, hR5⟩
          have hR5H := Lib.hid hR5
          clear hR5 hr1
          go_upto_if 50 with fail
          go_cut [] (fun wx => ∃ g, Hid (WF 62 g) ∧ Hid (NoZ g) ∧ Hid (Own w wx p g))
          case first =>
            by_cases z : er = 0
            · subst z
              obtain ⟨b1, b2, b3⟩ := hbk.out rfl
              have hr2 := hR5H.out.calls (F := 27) (args := #[.pointer (some ⟨p, 0, none⟩), .int .i64 1, .string zzT, .string d]) (R := fun e => e = .returned (.int .i64 (RenameM F 1 zzT d).1)) (fun B sv ps h1 => rename_any h1 hw1.out (by omega) 1 zzT d hzs hdH.out)
              rw [b1] at hr2
              have hw2 := Lib.hid (rename_wf hw1.out 1 zzT d)
              have b2H := Lib.hid b2
              have b3H := Lib.hid b3
              have hr2H := Lib.hid hr2
              clear b1 b2 b3 hr2
              go_wp2_with fail
              refine hr2H.out.mono ?_
              rintro e w6 ⟨rfl, hR6⟩
              have ht := hR6.own.treeB hw2.out (by omega) (Below.refl _ _)
              rw [b2H.out] at ht
              have htH := Lib.hid ht
              have hR6H := Lib.hid hR6
              clear hR6 ht
              go_wp2_with fail
              refine htH.out.mono ?_
              rintro e w7 ⟨v2, rfl, hv2, hb7, _⟩
              have hv2H := Lib.hid hv2
              have hR7 := Lib.hid (hR6H.out.below hb7)
              clear hv2 hb7
              go_wp2_with fail
              refine (same_any hv2H.out hR7.out.row (by have := TreeM_len hW.out (by omega); omega)).mono ?_
              rintro e w8 ⟨rfl, hb8⟩
              have hO8 := Lib.hid (hR7.out.own.below hb8)
              clear hb8
              go_wp2_with fail
              go_meet
              exact ⟨_, Lib.hid (hw2.out.mono (by omega)), b3H, hO8⟩
            · have xz : ((er : Int) == 0) = false := beq_eq_false_iff_ne.2 (by omega)
              have hsm2 := hsm.out z
              subst hsm2
              go_wp2_with fail
              go_meet
              exact ⟨_, Lib.hid (hW.out.mono (by omega)), hNZ, Lib.hid hR5H.out.own⟩
          case rest =>
            obtain ⟨g, hWg, hNg, hOg⟩ := hcut
            have htr := Lib.hid (Own.treeR hOg.out hWg.out (by omega))
            clear hR5H hR4 hRH hwkH
            go_wp2_with fail
            refine htr.out.mono ?_
            rintro e w6 ⟨v6, rfl, hR6⟩
            have hl1 := Lib.hid (hR6.calls (F := 28) (args := #[.pointer (some ⟨p, 0, none⟩), .int .i64 1, .string d, .string zzT]) (R := fun e => e = .returned (.int .i64 (LinkM g 1 d zzT).1)) (fun B sv ps h1 => link_any h1 (hWg.out.fine (by omega)) hWg.out.closed 1 d zzT hdH.out hzs))
            have hw3 := Lib.hid (link_wf hWg.out 1 d zzT)
            have hbk2 := Lib.hid (fun (h : (LinkM g 1 d zzT).1 = 0) => link_back hWg.out h47a.out hNg.out h)
            obtain ⟨el, hel⟩ : ∃ z, (LinkM g 1 d zzT).1 = z := ⟨_, rfl⟩
            obtain ⟨G, hG⟩ : ∃ z, (LinkM g 1 d zzT).2 = z := ⟨_, rfl⟩
            rw [hel, hG] at hl1 hbk2
            rw [hG] at hw3
            clear hel hG hR6 htr
            go_wp2_with fail
            refine hl1.out.mono ?_
            rintro e w7 ⟨rfl, hR7⟩
            have hR7H := Lib.hid hR7
            clear hR7 hl1
            by_cases z : el = 0
            · subst z
              obtain ⟨b1, b2⟩ := hbk2.out rfl
              have hu := hR7H.out.calls (F := 29) (args := #[.pointer (some ⟨p, 0, none⟩), .int .i64 1, .string zzT]) (R := fun e => e = .returned (.int .i64 (UnlinkM G 1 zzT).1)) (fun B sv ps h1 => unlinkF_any h1 (hw3.out.fine (by omega)) hw3.out.closed hw3.out.linked 1 zzT hzs)
              rw [b1, b2] at hu
              have huH := Lib.hid hu
              clear b1 b2 hu
              go_wp2_with fail
              refine huH.out.mono ?_
              rintro e w8 ⟨rfl, hR8⟩
              have htH := Lib.hid (hR8.own.treeB hWg.out (by omega) (Below.refl _ _))
              have hR8H := Lib.hid hR8
              clear hR8
              go_wp2_with fail
              refine htH.out.mono ?_
              rintro e w9 ⟨v2, rfl, hv2, hb9, _⟩
              have hv2H := Lib.hid hv2
              have hR9 := Lib.hid (hR8H.out.below hb9)
              clear hv2 hb9
              go_wp2_with fail
              refine (same_any hv2H.out hR9.out.row (by have := TreeM_len hWg.out (by omega); omega)).mono ?_
              rintro e wa ⟨rfl, hba⟩
              have hOa := Lib.hid (hR9.out.own.below hba)
              clear hba
              go_wp2_with fail
              go_ret
              exact ⟨rfl, hOa.out.toBelow⟩
            · have xz : ((el : Int) == 0) = false := beq_eq_false_iff_ne.2 (by omega)
              go_wp2_with fail
              go_ret
              exact ⟨rfl, hR7H.out.own.toBelow⟩
    · have xz : ((we : Int) != 2) = true := bne_iff_ne.2 (by omega)
      go_wp2_with fail
      go_ret
      exact ⟨rfl, hR4.out.own.toBelow⟩
end Go.Proofs.Ytohgecmbkjienaa
