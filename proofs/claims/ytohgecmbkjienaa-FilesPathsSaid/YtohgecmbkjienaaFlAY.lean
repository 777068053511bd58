/- unlink, with the other slots' pointers kept. Condition: the tree lies as stated. -/
import Derived.Test.YtohgecmbkjienaaFlAX
namespace Go.Proofs.Ytohgecmbkjienaa
open Go.RowKit Go.Shelf Go.PlainAid
attribute [local go_sem] Oper.semAt_some
/-- What a step on a tree leaves, its pointers told. -/
def FsQ (O : Nat → Prop) (w0 w : World) (p : Nat) (f : Fs) (ps : List (Option Nat)) : Prop := ∃ B sv, FsAt w B p f sv ps ∧ (∀ g, All B g → O g ∨ w0.heap.size ≤ g) ∧ Frm O w0 w
/-- The same: all pointers but one slot's are kept. -/
def FsR (O : Nat → Prop) (w0 w : World) (p : Nat) (f : Fs) (ps : List (Option Nat)) (j : Nat) : Prop := ∃ ps', FsQ O w0 w p f ps' ∧ ∀ k, k ≠ j → ps'[k]? = ps[k]?
theorem FsQ.toP {O : Nat → Prop} {w0 w : World} {p : Nat} {f : Fs} {ps : List (Option Nat)} (h : FsQ O w0 w p f ps) : FsP O w0 w p f := by
  obtain ⟨B, sv, h1, h2⟩ := h
  exact ⟨B, ⟨sv, ps, h1⟩, h2⟩
theorem FsQ.join {O : Nat → Prop} {w w1 w2 : World} {B' : Nat → Nat → Prop} {p : Nat} {f : Fs} {ps : List (Option Nat)} (h2 : ∀ g, All B' g → O g ∨ w.heap.size ≤ g) (h3 : Frm O w w1) (k : FsQ (All B') w1 w2 p f ps) : FsQ O w w2 p f ps := by
  obtain ⟨B, sv, k1, k2, k3⟩ := k
  exact ⟨B, sv, k1, fun g hg => (k2 g hg).elim (h2 g) (fun h => .inr (Nat.le_trans h3.size h)), h3.trans h2 k3⟩
theorem FsR.join {O : Nat → Prop} {w w1 w2 : World} {B' : Nat → Nat → Prop} {p : Nat} {f : Fs} {ps : List (Option Nat)} {j : Nat} (h2 : ∀ g, All B' g → O g ∨ w.heap.size ≤ g) (h3 : Frm O w w1) (k : FsR (All B') w1 w2 p f ps j) : FsR O w w2 p f ps j := by
  obtain ⟨ps', k1, k2⟩ := k
  exact ⟨ps', FsQ.join h2 h3 k1, k2⟩
theorem FsQ.after {O : Nat → Prop} {w w1 w2 : World} {p : Nat} {f : Fs} {ps : List (Option Nat)} (hb : Below w.heap.size w w1) (h : FsQ O w1 w2 p f ps) : FsQ O w w2 p f ps := by
  obtain ⟨B', sv, h1, h2, h3⟩ := h
  exact ⟨B', sv, h1, fun g hg => (h2 g hg).elim .inl (fun h => .inr (Nat.le_trans hb.size h)), (Frm.of_below hb).trans (fun g h => .inl h) h3⟩
theorem FsR.after {O : Nat → Prop} {w w1 w2 : World} {p : Nat} {f : Fs} {ps : List (Option Nat)} {j : Nat} (hb : Below w.heap.size w w1) (h : FsR O w1 w2 p f ps j) : FsR O w w2 p f ps j := by
  obtain ⟨ps', h1, h2⟩ := h
  exact ⟨ps', FsQ.after hb h1, h2⟩
section
variable {w : World} {B : Nat → Nat → Prop} {p : Nat} {f : Fs} {sv : Value} {ps : List (Option Nat)}
theorem FsAt.sameQ (h : FsAt w B p f sv ps) : FsQ (All B) w w p f ps := ⟨B, sv, h, fun _ hg => .inl hg, Frm.refl _ _⟩
theorem FsAt.turnQ {w' : World} (h : FsAt w B p f sv ps) {i q : Nat} {I' : Ino} (hi : i < f.length) (hq : ps[i]? = some (some q)) (hI : InoP (B (i + 1)) w w' q I') : FsQ (All B) w w' p (f.set i (some I')) ps := by
  obtain ⟨S', h1, h2, h3⟩ := hI
  refine ⟨_, sv, h.turn hi hq h1 h2 h3, fun g ⟨j, hj⟩ => ?_, h3.mono (fun g hg => ⟨_, hg⟩)⟩
  unfold upB at hj
  split at hj
  · rcases h2 g hj with h4 | h4
    · exact .inl ⟨_, h4⟩
    · exact .inr h4
  · exact .inl ⟨_, hj⟩
theorem FsAt.slotQ (h : FsAt w B p f sv ps) {i : Nat} (hi : i < f.length) {w1 : World} (hb : Below w.heap.size w w1) {o : Option Nat} {x : Option Ino} {S : Nat → Prop} (hx : (x = none ∧ o = none) ∨ ∃ I q, x = some I ∧ o = some q ∧ InoIs w1 S q I) (hS : ∀ g, S g → w.heap.size ≤ g ∧ g < w1.heap.size) {g c : Nat} (hsv : sv = .slice (some ⟨g, 0, none⟩) ps.length c) :
    FsQ (All B) w (w1.setCell ⟨g, i, none⟩ (ptrV o)) p (f.set i x) (ps.set i o) := by
  subst hsv
  have hg0 : B 0 g := h.bs g rfl
  have hgl := h.lt 0 g hg0
  have hpg : p ≠ g := fun e => row_off h.blk ends_ne.2.2.2 h.row (by rw [e]; rfl)
  have hrow := (row_beneath h.row hb)
  obtain ⟨hr2, hg2⟩ := hrow.stored i (ptrV o)
  have hkeep : ∀ j k, B j k → k ≠ g → (w1.setCell ⟨g, i, none⟩ (ptrV o)).heap[k]? = w.heap[k]? := fun j k hk hne => (Below.heap_setCell _ _ _ _ (fun e => hne e)).trans (hb.block k (h.lt j k hk))
  have hps : (ptrs ps).set i (ptrV o) = ptrs (ps.set i o) := by unfold ptrs; rw [List.map_set]
  refine ⟨upB B (i + 1) S, .slice (some ⟨g, 0, none⟩) ps.length c, ⟨?_, ?_, ?_, ?_, ?_, fun j I hj => ?_, fun j hj => ?_, fun a b k ha hb' => ?_, fun a k ha => ?_⟩, fun k ⟨j, hj⟩ => ?_, ?_⟩
  · exact h.blk.keep (hkeep 0 p h.bp hpg)
  · rw [List.length_set, ← hps]; exact hr2
  · rw [List.length_set, List.length_set, h.len]
  · rw [upB_ne B (by omega)]; exact h.bp
  · rw [upB_ne B (by omega)]; intro k hk; exact h.bs k hk
  · by_cases e : j = i
    · subst e
      rw [List.getElem?_set_self hi] at hj
      rcases hx with ⟨h1, _⟩ | ⟨I2, q, h1, h2, dv, ev, h3⟩
      · rw [h1] at hj; cases hj
      · rw [h1] at hj
        cases hj
        refine ⟨q, by rw [h2, List.getElem?_set_self (by rw [h.len]; exact hi)], dv, ev, ?_⟩
        rw [upB_same]
        exact h3.keep (by simp) (fun k hk => Below.heap_setCell _ _ _ _ (fun e => by have := (hS k hk).1; have : k = g := e; omega))
    · rw [List.getElem?_set_ne (fun h => e h.symm)] at hj
      obtain ⟨q', h1, dv, ev, h2⟩ := h.some_ j I hj
      refine ⟨q', by rw [List.getElem?_set_ne (fun h => e h.symm)]; exact h1, dv, ev, ?_⟩
      rw [upB_ne B (by omega)]
      exact h2.keep (by rw [World.size_setCell]; exact hb.size) (fun k hk => hkeep (j + 1) k hk (fun e2 => by have := h.apart _ _ _ hk (e2 ▸ hg0); omega))
  · by_cases e : j = i
    · subst e
      rw [List.getElem?_set_self hi] at hj
      rcases hx with ⟨_, h2⟩ | ⟨I2, q, h1, _⟩
      · rw [h2, List.getElem?_set_self (by rw [h.len]; exact hi)]
      · rw [h1] at hj; cases hj
    · rw [List.getElem?_set_ne (fun h => e h.symm)] at hj ⊢
      exact h.none_ j hj
  · unfold upB at ha hb'
    split at ha
    · split at hb'
      · omega
      · have := (hS k ha).1; have := h.lt _ _ hb'; omega
    · split at hb'
      · have := (hS k hb').1; have := h.lt _ _ ha; omega
      · exact h.apart _ _ _ ha hb'
  · rw [World.size_setCell]
    unfold upB at ha
    split at ha
    · exact (hS k ha).2
    · exact Nat.lt_of_lt_of_le (h.lt _ _ ha) hb.size
  · unfold upB at hj
    split at hj
    · exact .inr (hS k hj).1
    · exact .inl ⟨_, hj⟩
  · exact (Frm.of_below hb).setCell (.inl ⟨0, hg0⟩) _
theorem cutQ_any (h : FsAt w B p f sv ps) {i : Nat} (hi : i < f.length) (hlen : f.length ≤ 100000) : Calls Try.prog 68 #[.pointer (some ⟨p, 0, none⟩), .int .i64 ((i : Int) + 1)] w fun e w' => e = .returned (.tuple #[]) ∧ FsQ (All B) w w' p (f.set i none) (ps.set i none) := by
  obtain ⟨o, ho⟩ : ∃ o, ps[i]? = some o := ⟨_, List.getElem?_eq_getElem (by rw [h.len]; exact hi)⟩
  obtain ⟨m, hm⟩ : ∃ m, ps.length = m := ⟨_, rfl⟩
  have hil : i < m := by rw [← hm, h.len]; exact hi
  have hml : m ≤ 100000 := by rw [← hm, h.len]; exact hlen
  obtain ⟨g, c, e, hc, hf⟩ := slot_cell h ho
  have hP := Lib.hid (h.slotQ hi (Below.refl _ _) (o := none) (x := none) (S := fun _ => False) (.inl ⟨rfl, rfl⟩) (fun g h => h.elim) e)
  subst e
  have c0 : w.cell? ⟨p, 0, none⟩ = some (.slice (some ⟨g, 0, none⟩) m c) := by rw [← hm]; exact h.blk.cell 0
  have hi3 : ¬ m < i + 1 := by omega
  clear h hm ho hi hlen
  go_enter Try.func68, Try.ntmps68
  go_wp2
  go_end0
  exact ⟨rfl, hP.out⟩
set_option maxHeartbeats 1000000 in
theorem releaseQ_any (h : FsAt w B p f sv ps) {i : Nat} {I : Ino} (hi : f[i]? = some (some I)) (hlen : f.length ≤ 100000) : Calls Try.prog 47 #[.pointer (some ⟨p, 0, none⟩), .int .i64 ((i : Int) + 1)] w fun e w' => e = .returned (.tuple #[]) ∧ FsR (All B) w w' p (relM f (i + 1)) ps i := by
  obtain ⟨q, hq, dv, ev, hI⟩ := h.some_ i I hi
  have hn := Lib.hid (node_yes h hq hlen)
  have hc := Lib.hid (cutQ_any h (List.getElem?_eq_some_iff.1 hi).1 hlen)
  have hr := Lib.hid (relM_at hi)
  have hH := Lib.hid h
  have c0 : w.cell? ⟨p, 0, none⟩ = some sv := h.blk.cell 0
  have c2 : w.cell? ⟨q, 2, none⟩ = some (.int .i64 I.links) := hI.blk.cell 2
  have c3 : w.cell? ⟨q, 3, none⟩ = some (.int .i64 I.holds) := hI.blk.cell 3
  rw [hr.out]
  clear h hi hq hI
  by_cases h1 : I.links = 0
  · by_cases h2 : I.holds = 0
    · rw [if_pos ⟨h1, h2⟩]
      rw [h1] at c2
      rw [h2] at c3
      go_enter Try.func47, Try.ntmps47
      go_wp2_with (first | (go_at_call 38; refine hn.out.mono ?_; rintro e w' ⟨rfl, rfl⟩) | (go_at_call 68; refine hc.out.mono ?_; rintro e w' ⟨rfl, hP⟩))
      go_end0
      exact ⟨rfl, _, hP, fun k hk => List.getElem?_set_ne (fun e => hk e.symm)⟩
    · rw [if_neg (fun h => h2 h.2)]
      rw [h1] at c2
      have e2 : ((I.holds : Int) == 0) = false := beq_eq_false_iff_ne.2 (by omega)
      go_enter Try.func47, Try.ntmps47
      go_wp2_with (go_at_call 38; refine hn.out.mono ?_; rintro e w' ⟨rfl, rfl⟩)
      go_end0
      exact ⟨rfl, _, hH.out.sameQ, fun _ _ => rfl⟩
  · rw [if_neg (fun h => h1 h.1)]
    have e2 : ((I.links : Int) == 0) = false := beq_eq_false_iff_ne.2 (by omega)
    go_enter Try.func47, Try.ntmps47
    go_wp2_with (go_at_call 38; refine hn.out.mono ?_; rintro e w' ⟨rfl, rfl⟩)
    go_end0
    exact ⟨rfl, _, hH.out.sameQ, fun _ _ => rfl⟩
/-- One link less; let go. -/
theorem lessQ_any (h : FsAt w B p f sv ps) {j : Nat} {J : Ino} (hj : f[j]? = some (some J)) (hlen : f.length ≤ 100000) : ∃ q, Calls Try.prog 38 #[.pointer (some ⟨p, 0, none⟩), .int .i64 ((j : Int) + 1)] w (fun e w' => e = .returned (.pointer (some ⟨q, 0, none⟩)) ∧ w' = w) ∧
    w.cell? ⟨q, 2, none⟩ = some (.int .i64 J.links) ∧ w.frozen? ⟨q, 2, none⟩ = false ∧
    ∀ v, ((J.links - 1 : Nat) : Int) = v → Calls Try.prog 47 #[.pointer (some ⟨p, 0, none⟩), .int .i64 ((j : Int) + 1)] (w.setCell ⟨q, 2, none⟩ (.int .i64 v)) fun e w' => e = .returned (.tuple #[]) ∧ FsR (All B) w w' p (relM (setLinks f (j + 1) (· - 1)) (j + 1)) ps j := by
  obtain ⟨q, hq, dv, ev, hA⟩ := h.some_ j J hj
  have hjl := (List.getElem?_eq_some_iff.1 hj).1
  refine ⟨q, node_yes h hq hlen, hA.blk.cell 2, hA.blk.frozen 2, fun v hv => ?_⟩
  subst hv
  rw [setLinks_at hj]
  obtain ⟨B1, sv1, h1, k2, k3⟩ := h.turnQ hjl hq (hA.field (Below.refl _ _) 2 (.int .i64 ((J.links - 1 : Nat) : Int)) { J with links := J.links - 1 } rfl rfl rfl)
  exact (releaseQ_any h1 (List.getElem?_set_self hjl) (by rw [List.length_set]; exact hlen)).mono fun e w' h9 => ⟨h9.1, FsR.join k2 k3 h9.2⟩
set_option maxHeartbeats 1000000 in
theorem unlinkQ_any (h : FsAt w B p f sv ps) (hf : FineF f) {i j : Nat} {D J : Ino} (hi : f[i]? = some (some D)) (hj : f[j]? = some (some J)) (x : ByteArray) (hx : lookM D.ents x = j + 1) (hJ : 1 ≤ J.links) :
    Calls Try.prog 57 #[.pointer (some ⟨p, 0, none⟩), .int .i64 ((i : Int) + 1), .string x] w fun e w' => e = .returned (.tuple #[]) ∧ FsR (All B) w w' p (unlinkM f (i + 1) x) ps j := by
  have hlen : f.length ≤ 100000 := by have := hf.1; omega
  obtain ⟨q, hq, dv, ev, hA⟩ := h.some_ i D hi
  have hil := (List.getElem?_eq_some_iff.1 hi).1
  have hjl := (List.getElem?_eq_some_iff.1 hj).1
  have hll := (hf.2 j J hj).ll
  have hM : unlinkM f (i + 1) x = relM (setLinks (setEnts f (i + 1) (fun l => remM l x)) (j + 1) (· - 1)) (j + 1) := by
    unfold unlinkM
    rw [show ((i + 1 : Nat) : Int) = (i : Int) + 1 by omega, node_at hi]
    dsimp only
    rw [hx]
  rw [hM]
  have hf1 : setEnts f (i + 1) (fun l => remM l x) = f.set i (some { D with ents := remM D.ents x }) := setEnts_at hi _
  obtain ⟨J1, hJ1, hJl⟩ : ∃ J1, (setEnts f (i + 1) (fun l => remM l x))[j]? = some (some J1) ∧ J1.links = J.links := by
    rw [hf1]
    by_cases e : i = j
    · subst e
      rw [List.getElem?_set_self hil]
      exact ⟨_, rfl, by rw [hi] at hj; cases hj; rfl⟩
    · exact ⟨J, by rw [List.getElem?_set_ne e]; exact hj, rfl⟩
  have hnd := Lib.hid (fun (W : World) (hb : Below w.heap.size w W) => node_yes (h.below hb) hq hlen)
  have hlk := Lib.hid (lookup_any hA (hf.2 i D hi) x)
  rw [hx] at hlk
  have hrm := Lib.hid (fun (W : World) (hb : Below w.heap.size w W) => (remove_any (hA.below hb) (hf.2 i D hi) x).mono fun e w2 h9 => And.intro h9.1 (show ∃ q2, Calls Try.prog 38 #[.pointer (some ⟨p, 0, none⟩), .int .i64 ((j : Int) + 1)] w2 (fun e w' => e = .returned (.pointer (some ⟨q2, 0, none⟩)) ∧ w' = w2) ∧
      w2.cell? ⟨q2, 2, none⟩ = some (.int .i64 J.links) ∧ w2.frozen? ⟨q2, 2, none⟩ = false ∧
      Calls Try.prog 47 #[.pointer (some ⟨p, 0, none⟩), .int .i64 ((j : Int) + 1)] (w2.setCell ⟨q2, 2, none⟩ (.int .i64 ((J.links : Int) - 1))) fun e w' => e = .returned (.tuple #[]) ∧ FsR (All B) w w' p (relM (setLinks (setEnts f (i + 1) (fun l => remM l x)) (j + 1) (· - 1)) (j + 1)) ps j by
    have h10 := h.turnQ hil hq (h9.2.below hb)
    rw [← hf1] at h10
    obtain ⟨B1, sv1, h1, k2, k3⟩ := h10
    obtain ⟨q2, e1, e2, e3, e4⟩ := lessQ_any h1 hJ1 (by rw [hf1, List.length_set]; exact hlen)
    rw [hJl] at e2 e4
    exact ⟨q2, e1, e2, e3, (e4 _ (by omega)).mono fun e w' h11 => ⟨h11.1, FsR.join k2 k3 h11.2⟩⟩))
  have hbr := Lib.hid (Below.refl w.heap.size w)
  clear h hf hi hj hx hA hq hM hf1 hJ1
  go_enter Try.func57, Try.ntmps57
  go_wp2_with (first | (go_at_call 38; refine hn2.mono ?_; rintro e w' ⟨rfl, rfl⟩) | (go_at_call 38; refine (hnd.out _ hb1).mono ?_; rintro e w' ⟨rfl, rfl⟩) | (go_at_call 38; refine (hnd.out _ hbr.out).mono ?_; rintro e w' ⟨rfl, rfl⟩) | (go_at_call 55; refine hlk.out.mono ?_; rintro e w1 ⟨rfl, hb1⟩) | (go_at_call 58; refine (hrm.out _ hb1).mono ?_; rintro e w2 ⟨rfl, q2, hn2, c2, g2, hrel⟩) | (go_at_call 47; refine hrel.mono ?_; rintro e w3 ⟨rfl, hP3⟩))
  go_end0
  exact ⟨rfl, hP3⟩
end
end Go.Proofs.Ytohgecmbkjienaa
