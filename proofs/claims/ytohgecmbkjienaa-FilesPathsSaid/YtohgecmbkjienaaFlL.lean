/- The slots: put, release; New. Condition: the tree lies as stated. -/
import Derived.Test.YtohgecmbkjienaaFlK
namespace Go.Proofs.Ytohgecmbkjienaa
open Go.RowKit Go.PlainAid
attribute [local go_sem] Oper.semAt_some

theorem free_le : ∀ f : Fs, free f ≤ f.length
  | [] => Nat.le_refl _
  | none :: _ => Nat.zero_le _
  | some _ :: l => by have := free_le l; simp only [free, List.length_cons]; omega
theorem free_some : ∀ (f : Fs) (j : Nat), j < free f → ∃ I, f[j]? = some (some I)
  | [], j, h => by simp [free] at h
  | none :: _, j, h => by simp [free] at h
  | some I :: l, 0, _ => ⟨I, rfl⟩
  | some _ :: l, j + 1, h => by
    obtain ⟨I, hI⟩ := free_some l j (by simp only [free] at h; omega)
    exact ⟨I, by simpa using hI⟩
theorem free_none : ∀ f : Fs, free f < f.length → f[free f]? = some none
  | [], h => by simp [free] at h
  | none :: _, _ => rfl
  | some _ :: l, h => by
    have := free_none l (by simp only [free, List.length_cons] at h; omega)
    simpa [free] using this
section
variable {w : World} {B : Nat → Nat → Prop} {p : Nat} {f : Fs} {sv : Value} {ps : List (Option Nat)}
set_option maxRecDepth 100000 in
set_option maxHeartbeats 2000000 in
theorem put_any (h : FsAt w B p f sv ps) (I : Ino) (hd : I.data = []) (he : I.ents = []) (hlen : f.length ≤ 10000) :
    Calls Try.prog 32 #[.pointer (some ⟨p, 0, none⟩), .agg #[.int .i64 I.kind, .int .i64 I.mode, .int .i64 I.links, .int .i64 I.holds, .slice none 0 0, .slice none 0 0, .int .i64 I.parent]] w fun e w' =>
      e = .returned (.int .i64 ((free f : Nat) + 1)) ∧ FsP (All B) w w' p (putNew f I) := by
  obtain ⟨i0, hi0, hz0, hz1, hz2⟩ := info_parts ptr_info
  obtain ⟨a, c, rfl⟩ := ownsRow_slice h.row
  obtain ⟨m, hm⟩ : ∃ m, ps.length = m := ⟨_, rfl⟩
  have hml : m ≤ 10000 := by rw [← hm, h.len]; exact hlen
  have hfm : Hid (f.length = m) := Lib.hid (by rw [← hm, h.len])
  have hH := Lib.hid h
  have hmH := Lib.hid hm
  have hfle := Lib.hid (free_le f)
  have hpl := h.lt 0 p h.bp
  obtain ⟨W0, hW0⟩ : ∃ x, w.alloc (.cells #[.int .i64 I.kind, .int .i64 I.mode, .int .i64 I.links, .int .i64 I.holds, .slice none 0 0, .slice none 0 0, .int .i64 I.parent] 73) = x := ⟨_, rfl⟩
  have hb0 : Below w.heap.size w W0 := by rw [← hW0]; exact (Below.refl _ _).alloc (Nat.le_refl _) _
  have hs0 : W0.heap.size = w.heap.size + 1 := by rw [← hW0]; simp
  obtain ⟨q, hq⟩ : ∃ q, w.heap.size = q := ⟨_, rfl⟩
  have hI : Hid (InoIs W0 (fun g => g = q) q I) := Lib.hid (by
    have hB : Blk W0 q 73 (icells I (.slice none 0 0) (.slice none 0 0)) := by rw [← hW0, ← hq]; exact Blk.new _ _ _
    refine ⟨_, _, hB, by rw [hd]; exact World.ownsRow_nil _ _ _ _, by rw [he]; exact World.ownsRow_nil _ _ _ _, rfl, fun g hg => by simp [Value.ownBlock] at hg, fun g hg => by simp [Value.ownBlock] at hg, fun g hg => by rw [hg]; omega⟩)
  have k0 := Lib.hid (hH.out.keep hb0.size (fun i g hg => hb0.block g (hH.out.lt i g hg)))
  have hbH := Lib.hid hb0
  have hW0H := Lib.hid hW0
  have hs0H := Lib.hid hs0
  have hqH := Lib.hid hq
  have c0 : W0.cell? ⟨p, 0, none⟩ = some (.slice a m c) := by rw [← hm]; exact k0.out.blk.cell 0
  have f0 : W0.frozen? ⟨p, 0, none⟩ = false := k0.out.blk.frozen 0
  clear h hm hb0 hW0 hs0 hd he hlen hq
  go_enter Try.func32, Try.ntmps32
  go_wp2_with (rw [hW0H.out, hqH.out])
  go_loopw [12] (fun s12 wr => ∃ i : Nat, i ≤ m ∧ s12 = .int .i64 i ∧ W0 = wr ∧ i ≤ free f) (fun s12 _ => m - (intOf s12).toNat)
  case atStart => exact ⟨0, Nat.zero_le _, by go_num, rfl, Nat.zero_le _⟩
  case round =>
    obtain ⟨i, hi, rfl, rfl, hfr⟩ := hrel
    by_cases hlt : i < m
    · by_cases hif : i = free f
      · have hn := free_none f (by rw [← hif, hfm.out]; exact hlt)
        obtain ⟨g, c', e, hc, hfz⟩ := slot_cell k0.out (k0.out.none_ _ hn)
        have hP := Lib.hid (hH.out.slot (i := free f) (by rw [← hif, hfm.out]; exact hlt) hbH.out (o := some q) (x := some I) (S := fun g => g = q) (.inr ⟨I, q, rfl, rfl, hI.out⟩) (fun g hg => by rw [hg]; have := hs0H.out; have := hqH.out; omega) e)
        rw [hmH.out] at e
        obtain ⟨rfl, rfl⟩ : a = some ⟨g, 0, none⟩ ∧ c = c' := by simpa using e
        rw [← hif] at hc hfz
        have hc2 : W0.cell? ⟨g, i, none⟩ = some (.pointer none) := hc
        have hpn : Hid (putNew f I = f.set (free f) (some I)) := Lib.hid (by unfold putNew; rw [if_pos (by rw [← hif, hfm.out]; exact hlt)])
        have hifH := Lib.hid hif
        clear hn e hc hif
        go_wp2
        go_ret
        refine ⟨by rw [← hifH.out]; rfl, ?_⟩
        rw [hpn.out, hifH.out]
        exact hP.out
      · obtain ⟨J, hJ⟩ := free_some f i (by omega)
        obtain ⟨q', hq', _⟩ := k0.out.some_ i J hJ
        obtain ⟨g, c', e, hc, hfz⟩ := slot_cell k0.out hq'
        rw [hmH.out] at e
        obtain ⟨rfl, rfl⟩ : a = some ⟨g, 0, none⟩ ∧ c = c' := by simpa using e
        have hc2 : W0.cell? ⟨g, i, none⟩ = some (.pointer (some ⟨q', 0, none⟩)) := hc
        have hfr' : i + 1 ≤ free f := by omega
        clear e hc hq' hJ hif hfz
        go_wp2
        go_roundw
        case rel => exact ⟨i + 1, by omega, by go_num, trivial, hfr'⟩
        case measure => simp [intOf]; omega
    · obtain rfl : i = m := by omega
      have hfe : Hid (free f = i) := Lib.hid (by have := hfle.out; have := hfm.out; omega)
      have hpn : Hid (putNew f I = f ++ [some I]) := Lib.hid (by unfold putNew; rw [if_neg (by rw [hfe.out, hfm.out]; omega)])
      have k1 := k0.out.row
      rw [hmH.out] at k1
      have k1H := Lib.hid k1
      clear k1
      go_wp2_with (at_builtin; refine wpList_append_lies _ rfl _ _ 64 rfl 0 77 i0 _ 1 _ Try.underlying64 hi0 hz0 hz1 hz2 rfl (by decide) (.slice a i c) i _ rfl (k1H.out.alloc _) ⟨W0.heap.size, 0, none⟩ 1 1 [ptrV (some q)] rfl (by rfl) (fun j u hj => by
          rw [Addr.add_lit, Nat.zero_add]
          obtain ⟨rfl, rfl⟩ : j = 0 ∧ u = ptrV (some q) := by
            cases j with
            | zero => simp at hj; exact ⟨rfl, hj.symm⟩
            | succ j => simp at hj
          exact (Blk.new _ _ _).cell 0) (fun u hu => by simp at hu; subst hu; rfl) (by decide) (by unfold maxLen; omega) (by omega) (Nat.zero_le _) _ rfl ?_; intro gg cc w' hown' hgr hat _
                   have hB2 := blk_grown (k0.out.blk.alloc (.cells #[.pointer (some ⟨q, 0, none⟩)] 77)) hgr (by have h9 := row_off k0.out.blk ends_ne.2.2.2 k0.out.row; rw [hmH.out] at h9; exact h9)
                   have d0 : w'.cell? ⟨p, 0, none⟩ = some (.slice a i c) := by rw [← hmH.out]; exact hB2.cell 0
                   have g0 : w'.frozen? ⟨p, 0, none⟩ = false := hB2.frozen 0
                   have hP := Lib.hid (hH.out.push (w1 := W0.alloc (.cells #[.pointer (some ⟨q, 0, none⟩)] 77)) (hbH.out.alloc hbH.out.size _) (by rw [hmH.out]; exact hgr) (I := I) (q := q) (S := fun g => g = q) (by
                     obtain ⟨dv, ev, h9⟩ := hI.out
                     exact ⟨dv, ev, h9.below ((Below.refl _ _).alloc (Nat.le_refl _) _)⟩) (fun g hg => by rw [hg, World.size_alloc]; have := hs0H.out; have := hqH.out; omega) (v' := .slice (some ⟨gg, 0, none⟩) (i + 1) cc) (by rw [hmH.out]; exact hown') (fun g hg => by
                     obtain rfl : gg = g := by simpa [Value.ownBlock] using hg
                     rcases hat with h9 | h9
                     · exact .inl (by rw [hmH.out]; exact h9)
                     · exact .inr (Nat.le_of_eq h9.symm)))
                   clear hown' hgr hat hB2)
      all_goals
        go_ret
        rw [hfe.out, hpn.out]
        exact ⟨rfl, hP.out⟩
end
end Go.Proofs.Ytohgecmbkjienaa
