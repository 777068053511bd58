/- unlink, with the other slots' pointers kept. Condition: the tree lies as stated. -/
import Derived.Test.YtmilagppbepnbaaGreatGFc
namespace Go.Proofs.YtmilagppbepnbaaGreat
open Go.RowKit Go.Shelf Go.PlainAid
attribute [local go_sem] Oper.semAt_some
/-- What a step on a tree leaves, its pointers told. -/
def FsQ (O : Nat → Prop) (w0 w : World) (p : Nat) (f : Fs) (ps : List (Option Nat)) : Prop := ∃ B sv, FsAt w B p f sv ps ∧ (∀ g, All B g → O g ∨ w0.heap.size ≤ g) ∧ Frm O w0 w
/-- The same: all pointers but one slot's are kept. -/
def FsR (O : Nat → Prop) (w0 w : World) (p : Nat) (f : Fs) (ps : List (Option Nat)) (j : Nat) : Prop := ∃ ps', FsQ O w0 w p f ps' ∧ ∀ k, k ≠ j → ps'[k]? = ps[k]?
theorem FsQ.toP {O : Nat → Prop} {w0 w : World} {p : Nat} {f : Fs} {ps : List (Option Nat)} (h : FsQ O w0 w p f ps) : FsP O w0 w p f := by
  obtain ⟨B, sv, h1, h2⟩ := h
  exact ⟨B, ⟨sv, ps, h1⟩, h2⟩
theorem FsQ.join {O : Nat → Prop} {w w1 w2 : World} {B' : Nat → Nat → Prop} {p : Nat} {f : Fs} {ps : List (Option Nat)} (h2 : ∀ g, All B' g → O g ∨ w.heap.size ≤ g) (h3 : Frm O w w1) (k : FsQ (All B') w1 w2 p f ps) : FsQ O w w2 p f ps := by
  obtain ⟨B, sv, k1, k2, k3⟩ := k
  exact ⟨B, sv, k1, fun g hg => (k2 g hg).elim (h2 g) (fun h => .inr (Nat.le_trans h3.size h)), h3.trans h2 k3⟩
theorem FsR.join {O : Nat → Prop} {w w1 w2 : World} {B' : Nat → Nat → Prop} {p : Nat} {f : Fs} {ps : List (Option Nat)} {j : Nat} (h2 : ∀ g, All B' g → O g ∨ w.heap.size ≤ g) (h3 : Frm O w w1) (k : FsR (All B') w1 w2 p f ps j) : FsR O w w2 p f ps j := by
  obtain ⟨ps', k1, k2⟩ := k
  exact ⟨ps', FsQ.join h2 h3 k1, k2⟩
theorem FsQ.after {O : Nat → Prop} {w w1 w2 : World} {p : Nat} {f : Fs} {ps : List (Option Nat)} (hb : Below w.heap.size w w1) (h : FsQ O w1 w2 p f ps) : FsQ O w w2 p f ps := by
  obtain ⟨B', sv, h1, h2, h3⟩ := h
  exact ⟨B', sv, h1, fun g hg => (h2 g hg).elim .inl (fun h => .inr (Nat.le_trans hb.size h)), (Frm.of_below hb).trans (fun g h => .inl h) h3⟩
theorem FsR.after {O : Nat → Prop} {w w1 w2 : World} {p : Nat} {f : Fs} {ps : List (Option Nat)} {j : Nat} (hb : Below w.heap.size w w1) (h : FsR O w1 w2 p f ps j) : FsR O w w2 p f ps j := by
  obtain ⟨ps', h1, h2⟩ := h
  exact ⟨ps', FsQ.after hb h1, h2⟩
section
variable {w : World} {B : Nat → Nat → Prop} {p : Nat} {f : Fs} {sv : Value} {ps : List (Option Nat)}
theorem FsAt.sameQ (h : FsAt w B p f sv ps) : FsQ (All B) w w p f ps := ⟨B, sv, h, fun _ hg => .inl hg, Frm.refl _ _⟩
theorem FsAt.turnQ {w' : World} (h : FsAt w B p f sv ps) {i q : Nat} {I' : Ino} (hi : i < f.length) (hq : ps[i]? = some (some q)) (hI : InoP (B (i + 1)) w w' q I') : FsQ (All B) w w' p (f.set i (some I')) ps := by
  obtain ⟨S', h1, h2, h3⟩ := hI
  refine ⟨_, sv, h.turn hi hq h1 h2 h3, fun g ⟨j, hj⟩ => ?_, h3.mono (fun g hg => ⟨_, hg⟩)⟩
  unfold upB at hj
  split at hj
  · rcases h2 g hj with h4 | h4
    · exact .inl ⟨_, h4⟩
    · exact .inr h4
  · exact .inl ⟨_, hj⟩
theorem FsAt.slotQ (h : FsAt w B p f sv ps) {i : Nat} (hi : i < f.length) {w1 : World} (hb : Below w.heap.size w w1) {o : Option Nat} {x : Option Ino} {S : Nat → Prop} (hx : (x = none ∧ o = none) ∨ ∃ I q, x = some I ∧ o = some q ∧ InoIs w1 S q I) (hS : ∀ g, S g → w.heap.size ≤ g ∧ g < w1.heap.size) {g c : Nat} (hsv : sv = .slice (some ⟨g, 0, none⟩) ps.length c) :
    FsQ (All B) w (w1.setCell ⟨g, i, none⟩ (ptrV o)) p (f.set i x) (ps.set i o) := by
  subst hsv
  have hg0 : B 0 g := h.bs g rfl
  have hgl := h.lt 0 g hg0
  have hpg : p ≠ g := fun e => row_off h.blk ends_ne.2.2.2 h.row (by rw [e]; rfl)
  have hrow := (row_beneath h.row hb)
  obtain ⟨hr2, hg2⟩ := hrow.stored i (ptrV o)
  have hkeep : ∀ j k, B j k → k ≠ g → (w1.setCell ⟨g, i, none⟩ (ptrV o)).heap[k]? = w.heap[k]? := fun j k hk hne => (Below.heap_setCell _ _ _ _ (fun e => hne e)).trans (hb.block k (h.lt j k hk))
  have hps : (ptrs ps).set i (ptrV o) = ptrs (ps.set i o) := by unfold ptrs; rw [List.map_set]
  refine ⟨upB B (i + 1) S, .slice (some ⟨g, 0, none⟩) ps.length c, ⟨?_, ?_, ?_, ?_, ?_, fun j I hj => ?_, fun j hj => ?_, fun a b k ha hb' => ?_, fun a k ha => ?_⟩, fun k ⟨j, hj⟩ => ?_, ?_⟩
  · exact h.blk.keep (hkeep 0 p h.bp hpg)
  · rw [List.length_set, ← hps]; exact hr2
  · rw [List.length_set, List.length_set, h.len]
  · rw [upB_ne B (by omega)]; exact h.bp
  · rw [upB_ne B (by omega)]; intro k hk; exact h.bs k hk
  · by_cases e : j = i
    · subst e
      rw [List.getElem?_set_self hi] at hj
      rcases hx with ⟨h1, _⟩ | ⟨I2, q, h1, h2, dv, ev, h3⟩
      · rw [h1] at hj; cases hj
      · rw [h1] at hj
        cases hj
        refine ⟨q, by rw [h2, List.getElem?_set_self (by rw [h.len]; exact hi)], dv, ev, ?_⟩
        rw [upB_same]
        exact h3.keep (by simp) (fun k hk => Below.heap_setCell _ _ _ _ (fun e => by have := (hS k hk).1; have : k = g := e; omega))
    · rw [List.getElem?_set_ne (fun h => e h.symm)] at hj
      obtain ⟨q', h1, dv, ev, h2⟩ := h.some_ j I hj
      refine ⟨q', by rw [List.getElem?_set_ne (fun h => e h.symm)]; exact h1, dv, ev, ?_⟩
      rw [upB_ne B (by omega)]
      exact h2.keep (by rw [World.size_setCell]; exact hb.size) (fun k hk => hkeep (j + 1) k hk (fun e2 => by have := h.apart _ _ _ hk (e2 ▸ hg0); omega))
  · by_cases e : j = i
    · subst e
      rw [List.getElem?_set_self hi] at hj
      rcases hx with ⟨_, h2⟩ | ⟨I2, q, h1, _⟩
      · rw [h2, List.getElem?_set_self (by rw [h.len]; exact hi)]
      · rw [h1] at hj; cases hj
    · rw [List.getElem?_set_ne (fun h => e h.symm)] at hj ⊢
      exact h.none_ j hj
  · unfold upB at ha hb'
    split at ha
    · split at hb'
      · omega
      · have := (hS k ha).1; have := h.lt _ _ hb'; omega
    · split at hb'
      · have := (hS k hb').1; have := h.lt _ _ ha; omega
      · exact h.apart _ _ _ ha hb'
  · rw [World.size_setCell]
    unfold upB at ha
    split at ha
    · exact (hS k ha).2
    · exact Nat.lt_of_lt_of_le (h.lt _ _ ha) hb.size
  · unfold upB at hj
    split at hj
    · exact .inr (hS k hj).1
    · exact .inl ⟨_, hj⟩
  · exact (Frm.of_below hb).setCell (.inl ⟨0, hg0⟩) _
theorem cutQ_any (h : FsAt w B p f sv ps) {i : Nat} (hi : i < f.length) (hlen : f.length ≤ 100000) : Calls Tryz.prog 273 #[.pointer (some ⟨p, 0, none⟩), .int .i64 ((i : Int) + 1)] w fun e w' => e = .returned (.tuple #[]) ∧ FsQ (All B) w w' p (f.set i none) (ps.set i none) := by
  obtain ⟨o, ho⟩ : ∃ o, ps[i]? = some o := ⟨_, List.getElem?_eq_getElem (by rw [h.len]; exact hi)⟩
  obtain ⟨m, hm⟩ : ∃ m, ps.length = m := ⟨_, rfl⟩
  have hil : i < m := by rw [← hm, h.len]; exact hi
  have hml : m ≤ 100000 := by rw [← hm, h.len]; exact hlen
  obtain ⟨g, c, e, hc, hf⟩ := slot_cell h ho
  have hP := Lib.hid (h.slotQ hi (Below.refl _ _) (o := none) (x := none) (S := fun _ => False) (.inl ⟨rfl, rfl⟩) (fun g h => h.elim) e)
  subst e
  have c0 : w.cell? ⟨p, 0, none⟩ = some (.slice (some ⟨g, 0, none⟩) m c) := by rw [← hm]; exact h.blk.cell 0
  have hi3 : ¬ m < i + 1 := by omega
  clear h hm ho hi hlen
  go_enter Tryz.func273, Tryz.ntmps273
  go_wp2
  go_end0
  exact ⟨rfl, hP.out⟩
set_option maxHeartbeats 1000000 in
theorem releaseQ_any (h : FsAt w B p f sv ps) {i : Nat} {I : Ino} (hi : f[i]? = some (some I)) (hlen : f.length ≤ 100000) : Calls Tryz.prog 253 #[.pointer (some ⟨p, 0, none⟩), .int .i64 ((i : Int) + 1)] w fun e w' => e = .returned (.tuple #[]) ∧ FsR (All B) w w' p (relM f (i + 1)) ps i := by
  obtain ⟨q, hq, dv, ev, hI⟩ := h.some_ i I hi
  have hn := Lib.hid (node_yes h hq hlen)
  have hc := Lib.hid (cutQ_any h (List.getElem?_eq_some_iff.1 hi).1 hlen)
  have hr := Lib.hid (relM_at hi)
  have hH := Lib.hid h
  have c0 : w.cell? ⟨p, 0, none⟩ = some sv := h.blk.cell 0
  have c2 : w.cell? ⟨q, 2, none⟩ = some (.int .i64 I.links) := hI.blk.cell 2
  have c3 : w.cell? ⟨q, 3, none⟩ = some (.int .i64 I.holds) := hI.blk.cell 3
  rw [hr.out]
  clear h hi hq hI
  by_cases h1 : I.links = 0
  · by_cases h2 : I.holds = 0
    · rw [if_pos ⟨h1, h2⟩]
      rw [h1] at c2
      rw [h2] at c3
      go_enter Tryz.func253, Tryz.ntmps253
      go_wp2_with (first | (go_at_call 58; refine hn.out.mono ?_; rintro e w' ⟨rfl, rfl⟩) | (go_at_call 273; refine hc.out.mono ?_; rintro e w' ⟨rfl, hP⟩))
      go_end0
      exact ⟨rfl, _, hP, fun k hk => List.getElem?_set_ne (fun e => hk e.symm)⟩
    · rw [if_neg (fun h => h2 h.2)]
      rw [h1] at c2
      have e2 : ((I.holds : Int) == 0) = false := beq_eq_false_iff_ne.2 (by omega)
      go_enter Tryz.func253, Tryz.ntmps253
      go_wp2_with (go_at_call 58; refine hn.out.mono ?_; rintro e w' ⟨rfl, rfl⟩)
      go_end0
      exact ⟨rfl, _, hH.out.sameQ, fun _ _ => rfl⟩
  · rw [if_neg (fun h => h1 h.1)]
    have e2 : ((I.links : Int) == 0) = false := beq_eq_false_iff_ne.2 (by omega)
    go_enter Tryz.func253, Tryz.ntmps253
    go_wp2_with (go_at_call 58; refine hn.out.mono ?_; rintro e w' ⟨rfl, rfl⟩)
    go_end0
    exact ⟨rfl, _, hH.out.sameQ, fun _ _ => rfl⟩
/-- One link less; let go. -/
theorem lessQ_any (h : FsAt w B p f sv ps) {j : Nat} {J : Ino} (hj : f[j]? = some (some J)) (hlen : f.length ≤ 100000) : ∃ q, Calls Tryz.prog 58 #[.pointer (some ⟨p, 0, none⟩), .int .i64 ((j : Int) + 1)] w (fun e w' => e = .returned (.pointer (some ⟨q, 0, none⟩)) ∧ w' = w) ∧
    w.cell? ⟨q, 2, none⟩ = some (.int .i64 J.links) ∧ w.frozen? ⟨q, 2, none⟩ = false ∧
    ∀ v, ((J.links - 1 : Nat) : Int) = v → Calls Tryz.prog 253 #[.pointer (some ⟨p, 0, none⟩), .int .i64 ((j : Int) + 1)] (w.setCell ⟨q, 2, none⟩ (.int .i64 v)) fun e w' => e = .returned (.tuple #[]) ∧ FsR (All B) w w' p (relM (setLinks f (j + 1) (· - 1)) (j + 1)) ps j := by
  obtain ⟨q, hq, dv, ev, hA⟩ := h.some_ j J hj
  have hjl := (List.getElem?_eq_some_iff.1 hj).1
  refine ⟨q, node_yes h hq hlen, hA.blk.cell 2, hA.blk.frozen 2, fun v hv => ?_⟩
  subst hv
  rw [setLinks_at hj]
  obtain ⟨B1, sv1, h1, k2, k3⟩ := h.turnQ hjl hq (hA.field (Below.refl _ _) 2 (.int .i64 ((J.links - 1 : Nat) : Int)) { J with links := J.links - 1 } rfl rfl rfl)
  exact (releaseQ_any h1 (List.getElem?_set_self hjl) (by rw [List.length_set]; exact hlen)).mono fun e w' h9 => ⟨h9.1, FsR.join k2 k3 h9.2⟩
set_option maxHeartbeats 1000000 in
theorem unlinkQ_any (h : FsAt w B p f sv ps) (hf : FineF f) {i j : Nat} {D J : Ino} (hi : f[i]? = some (some D)) (hj : f[j]? = some (some J)) (x : ByteArray) (hx : lookM D.ents x = j + 1) (hJ : 1 ≤ J.links) :
    Calls Tryz.prog 209 #[.pointer (some ⟨p, 0, none⟩), .int .i64 ((i : Int) + 1), .string x] w fun e w' => e = .returned (.tuple #[]) ∧ FsR (All B) w w' p (unlinkM f (i + 1) x) ps j := by
  have hlen : f.length ≤ 100000 := by have := hf.1; omega
  obtain ⟨q, hq, dv, ev, hA⟩ := h.some_ i D hi
  have hil := (List.getElem?_eq_some_iff.1 hi).1
  have hjl := (List.getElem?_eq_some_iff.1 hj).1
  have hll := (hf.2 j J hj).ll
  have hM : unlinkM f (i + 1) x = relM (setLinks (setEnts f (i + 1) (fun l => remM l x)) (j + 1) (· - 1)) (j + 1) := by
    unfold unlinkM
    rw [show ((i + 1 : Nat) : Int) = (i : Int) + 1 by omega, node_at hi]
    dsimp only
    rw [hx]
  rw [hM]
  have hf1 : setEnts f (i + 1) (fun l => remM l x) = f.set i (some { D with ents := remM D.ents x }) := setEnts_at hi _
  obtain ⟨J1, hJ1, hJl⟩ : ∃ J1, (setEnts f (i + 1) (fun l => remM l x))[j]? = some (some J1) ∧ J1.links = J.links := by
    rw [hf1]
    by_cases e : i = j
    · subst e
      rw [List.getElem?_set_self hil]
      exact ⟨_, rfl, by rw [hi] at hj; cases hj; rfl⟩
    · exact ⟨J, by rw [List.getElem?_set_ne e]; exact hj, rfl⟩
  have hnd := Lib.hid (fun (W : World) (hb : Below w.heap.size w W) => node_yes (h.below hb) hq hlen)
  have hlk := Lib.hid (lookup_any hA (hf.2 i D hi) x)
  rw [hx] at hlk
  have hrm := Lib.hid (fun (W : World) (hb : Below w.heap.size w W) => (remove_any (hA.below hb) (hf.2 i D hi) x).mono fun e w2 h9 => And.intro h9.1 (show ∃ q2, Calls Tryz.prog 58 #[.pointer (some ⟨p, 0, none⟩), .int .i64 ((j : Int) + 1)] w2 (fun e w' => e = .returned (.pointer (some ⟨q2, 0, none⟩)) ∧ w' = w2) ∧
      w2.cell? ⟨q2, 2, none⟩ = some (.int .i64 J.links) ∧ w2.frozen? ⟨q2, 2, none⟩ = false ∧
      Calls Tryz.prog 253 #[.pointer (some ⟨p, 0, none⟩), .int .i64 ((j : Int) + 1)] (w2.setCell ⟨q2, 2, none⟩ (.int .i64 ((J.links : Int) - 1))) fun e w' => e = .returned (.tuple #[]) ∧ FsR (All B) w w' p (relM (setLinks (setEnts f (i + 1) (fun l => remM l x)) (j + 1) (· - 1)) (j + 1)) ps j by
    have h10 := h.turnQ hil hq (h9.2.below hb)
    rw [← hf1] at h10
    obtain ⟨B1, sv1, h1, k2, k3⟩ := h10
    obtain ⟨q2, e1, e2, e3, e4⟩ := lessQ_any h1 hJ1 (by rw [hf1, List.length_set]; exact hlen)
    rw [hJl] at e2 e4
    exact ⟨q2, e1, e2, e3, (e4 _ (by omega)).mono fun e w' h11 => ⟨h11.1, FsR.join k2 k3 h11.2⟩⟩))
  have hbr := Lib.hid (Below.refl w.heap.size w)
  clear h hf hi hj hx hA hq hM hf1 hJ1
  go_enter Tryz.func209, Tryz.ntmps209
  go_wp2_with (first | (go_at_call 58; refine hn2.mono ?_; rintro e w' ⟨rfl, rfl⟩) | (go_at_call 58; refine (hnd.out _ hb1).mono ?_; rintro e w' ⟨rfl, rfl⟩) | (go_at_call 58; refine (hnd.out _ hbr.out).mono ?_; rintro e w' ⟨rfl, rfl⟩) | (go_at_call 131; refine hlk.out.mono ?_; rintro e w1 ⟨rfl, hb1⟩) | (go_at_call 213; refine (hrm.out _ hb1).mono ?_; rintro e w2 ⟨rfl, q2, hn2, c2, g2, hrel⟩) | (go_at_call 253; refine hrel.mono ?_; rintro e w3 ⟨rfl, hP3⟩))
  go_end0
  exact ⟨rfl, hP3⟩
end
end Go.Proofs.YtmilagppbepnbaaGreat
/- Rename's tail. Condition: the tree lies as stated. -/
namespace Go.Proofs.YtmilagppbepnbaaGreat
open Go.RowKit Go.Shelf Go.PlainAid
attribute [local go_sem] Oper.semAt_some
/-- An entry goes from one directory to another; what it names has a new parent. -/
def renM (f : Fs) (n : Nat) (x : ByteArray) (t : Nat) (y : ByteArray) (k : Nat) : Fs := modN (setEnts (setEnts f n (fun l => remM l x)) t (fun l => addM l y k)) k (fun I => { I with parent := t })
theorem setEnts_live {f : Fs} {i j : Nat} {D J : Ino} (hi : f[i]? = some (some D)) (hj : f[j]? = some (some J)) (g : Ents → Ents) : ∃ J1, (setEnts f (i + 1) g)[j]? = some (some J1) := by
  rw [setEnts_at hi]
  by_cases e : i = j
  · subst e
    exact ⟨_, List.getElem?_set_self (List.getElem?_eq_some_iff.1 hi).1⟩
  · exact ⟨J, by rw [List.getElem?_set_ne e]; exact hj⟩
theorem setEnts_len {f : Fs} {i : Nat} {D : Ino} (hi : f[i]? = some (some D)) (g : Ents → Ents) : (setEnts f (i + 1) g).length = f.length := by rw [setEnts_at hi, List.length_set]
section
variable {w : World} {B : Nat → Nat → Prop} {p : Nat} {f : Fs} {sv : Value} {ps : List (Option Nat)}
theorem ren_tail (h : FsAt w B p f sv ps) (hf : FineF f) {i e j q2 : Nat} {D E J : Ino} (hi : f[i]? = some (some D)) (he : f[e]? = some (some E)) (hj : f[j]? = some (some J)) (hq2 : ps[j]? = some (some q2)) (x y : ByteArray)
    (hfe : ∀ E', (setEnts f (i + 1) (fun l => remM l x))[e]? = some (some E') → Fine E') :
    ∃ q, Calls Tryz.prog 58 #[.pointer (some ⟨p, 0, none⟩), .int .i64 ((i : Int) + 1)] w (fun r w' => r = .returned (.pointer (some ⟨q, 0, none⟩)) ∧ w' = w) ∧
    Calls Tryz.prog 213 #[.pointer (some ⟨q, 0, none⟩), .string x] w (fun r w2 => r = .returned (.tuple #[]) ∧ ∃ qe,
      Calls Tryz.prog 58 #[.pointer (some ⟨p, 0, none⟩), .int .i64 ((e : Int) + 1)] w2 (fun r w' => r = .returned (.pointer (some ⟨qe, 0, none⟩)) ∧ w' = w2) ∧
      Calls Tryz.prog 214 #[.pointer (some ⟨qe, 0, none⟩), .string y, .int .i64 ((j : Int) + 1)] w2 (fun r w3 => r = .returned (.tuple #[]) ∧
        (∃ v, w3.cell? ⟨q2, 6, none⟩ = some v) ∧ w3.frozen? ⟨q2, 6, none⟩ = false ∧
        FsP (All B) w (w3.setCell ⟨q2, 6, none⟩ (.int .i64 ((e : Int) + 1))) p (renM f (i + 1) x (e + 1) y (j + 1)))) := by
  have hlen : f.length ≤ 100000 := by have := hf.1; omega
  obtain ⟨q, hq, dv, ev, hA⟩ := h.some_ i D hi
  have hil := (List.getElem?_eq_some_iff.1 hi).1
  refine ⟨q, node_yes h hq hlen, (remove_any hA (hf.2 i D hi) x).mono fun r w2 h9 => ⟨h9.1, ?_⟩⟩
  have h10 := h.turnQ hil hq h9.2
  rw [← setEnts_at hi (fun l => remM l x)] at h10
  obtain ⟨B1, sv1, h1, k2, k3⟩ := h10
  obtain ⟨E1, he1⟩ := setEnts_live hi he (fun l => remM l x)
  obtain ⟨J1, hj1⟩ := setEnts_live hi hj (fun l => remM l x)
  have hl1 := setEnts_len hi (fun l => remM l x)
  obtain ⟨F1, hF1⟩ : ∃ F1, setEnts f (i + 1) (fun l => remM l x) = F1 := ⟨_, rfl⟩
  rw [hF1] at h1 he1 hj1 hl1 hfe
  obtain ⟨qe, hqe, dve, eve, hAe⟩ := h1.some_ e E1 he1
  have hel := (List.getElem?_eq_some_iff.1 he1).1
  refine ⟨qe, node_yes h1 hqe (by rw [hl1]; exact hlen), ?_⟩
  have h11 := add_any hAe (hfe E1 he1) y (j + 1)
  rw [show ((j + 1 : Nat) : Int) = (j : Int) + 1 by omega] at h11
  refine h11.mono fun r w3 h12 => ⟨h12.1, ?_⟩
  have h13 := h1.turnQ hel hqe h12.2
  rw [← setEnts_at he1 (fun l => addM l y (j + 1))] at h13
  obtain ⟨B2, sv2, h2, m2, m3⟩ := h13
  obtain ⟨J2, hj2⟩ := setEnts_live he1 hj1 (fun l => addM l y (j + 1))
  obtain ⟨qj, hqj, dvj, evj, hAj⟩ := h2.some_ j J2 hj2
  have hqq : qj = q2 := by
    rw [hq2] at hqj
    cases hqj
    rfl
  subst hqq
  refine ⟨⟨_, hAj.blk.cell 6⟩, hAj.blk.frozen 6, ?_⟩
  have h14 := h2.turnP (List.getElem?_eq_some_iff.1 hj2).1 hqj (hAj.field (Below.refl _ _) 6 (.int .i64 ((e + 1 : Nat) : Int)) { J2 with parent := e + 1 } rfl rfl rfl)
  rw [show ((e + 1 : Nat) : Int) = (e : Int) + 1 by omega] at h14
  have hR : renM f (i + 1) x (e + 1) y (j + 1) = (setEnts F1 (e + 1) (fun l => addM l y (j + 1))).set j (some { J2 with parent := e + 1 }) := by
    unfold renM
    rw [hF1, show ((j + 1 : Nat) : Int) = (j : Int) + 1 by omega, modN_at hj2]
  rw [hR]
  exact FsP.join k2 k3 (FsP.join m2 m3 h14)
end
end Go.Proofs.YtmilagppbepnbaaGreat
/- What unlink leaves of the plain tree. No condition. -/
namespace Go.Proofs.YtmilagppbepnbaaGreat
open Go.RowKit
theorem rem_sub (l : Ents) (x : ByteArray) : (remM l x).Sublist l := by
  unfold remM
  split
  · exact List.eraseIdx_sublist ..
  · exact List.Sublist.refl _
theorem fine_rem {I : Ino} (h : Fine I) (x : ByteArray) : Fine { I with ents := remM I.ents x } :=
  ⟨List.Pairwise.sublist ((rem_sub I.ents x).map _) h.srt, Nat.le_trans (rem_sub I.ents x).length_le h.el, h.dl, h.ll, h.hl⟩
theorem setEnts_get {f : Fs} {i : Nat} {D : Ino} (hi : f[i]? = some (some D)) (g : Ents → Ents) (k : Nat) : (setEnts f (i + 1) g)[k]? = if k = i then some (some { D with ents := g D.ents }) else f[k]? := by
  rw [setEnts_at hi]
  by_cases e : k = i
  · subst e
    rw [if_pos rfl, List.getElem?_set_self (List.getElem?_eq_some_iff.1 hi).1]
  · rw [if_neg e, List.getElem?_set_ne (fun h => e h.symm)]
theorem relM_get {f : Fs} {j : Nat} {J : Ino} (hj : f[j]? = some (some J)) {k : Nat} (hk : k ≠ j) : (relM f (j + 1))[k]? = f[k]? := by
  rw [relM_at hj]
  split
  · rw [List.getElem?_set_ne (fun h => hk h.symm)]
  · rfl
theorem relM_len {f : Fs} {j : Nat} {J : Ino} (hj : f[j]? = some (some J)) : (relM f (j + 1)).length = f.length := by
  rw [relM_at hj]
  split
  · rw [List.length_set]
  · rfl
section
variable {f : Fs} {i j : Nat} {D J : Ino} {x : ByteArray}
theorem unlinkM_eq (hi : f[i]? = some (some D)) (hx : lookM D.ents x = j + 1) : unlinkM f (i + 1) x = relM (setLinks (setEnts f (i + 1) (fun l => remM l x)) (j + 1) (· - 1)) (j + 1) := by
  unfold unlinkM
  rw [show ((i + 1 : Nat) : Int) = (i : Int) + 1 by omega, node_at hi]
  dsimp only
  rw [hx]
/-- Behind unlink all other slots but the directory's are as they were. -/
theorem unlinkM_get (hi : f[i]? = some (some D)) (hj : f[j]? = some (some J)) (hx : lookM D.ents x = j + 1) {k : Nat} (hk : k ≠ j) : (unlinkM f (i + 1) x)[k]? = if k = i then some (some { D with ents := remM D.ents x }) else f[k]? := by
  obtain ⟨J1, hJ1⟩ := setEnts_live hi hj (fun l => remM l x)
  have hl : (setEnts f (i + 1) (fun l => remM l x))[j]? = some (some J1) := hJ1
  rw [unlinkM_eq hi hx, setLinks_at hl, relM_get (List.getElem?_set_self (List.getElem?_eq_some_iff.1 hl).1) hk, List.getElem?_set_ne (fun h => hk h.symm), setEnts_get hi]
theorem unlinkM_len (hi : f[i]? = some (some D)) (hj : f[j]? = some (some J)) (hx : lookM D.ents x = j + 1) : (unlinkM f (i + 1) x).length = f.length := by
  obtain ⟨J1, hJ1⟩ := setEnts_live hi hj (fun l => remM l x)
  rw [unlinkM_eq hi hx, setLinks_at hJ1, relM_len (List.getElem?_set_self (List.getElem?_eq_some_iff.1 hJ1).1), List.length_set, setEnts_len hi]
theorem setEnts_fine (hf : FineF f) (hi : f[i]? = some (some D)) : FineF (setEnts f (i + 1) (fun l => remM l x)) := by
  refine ⟨by rw [setEnts_len hi]; exact hf.1, fun k K hk => ?_⟩
  rw [setEnts_get hi] at hk
  by_cases e : k = i
  · rw [if_pos e] at hk
    cases hk
    exact fine_rem (hf.2 i D hi) x
  · rw [if_neg e] at hk
    exact hf.2 k K hk
theorem unlinkM_fine (hf : FineF f) (hi : f[i]? = some (some D)) (hj : f[j]? = some (some J)) (hx : lookM D.ents x = j + 1) : FineF (unlinkM f (i + 1) x) := by
  refine ⟨by rw [unlinkM_len hi hj hx]; exact hf.1, fun k K hk => ?_⟩
  have hf1 := setEnts_fine (x := x) hf hi
  by_cases e : k = j
  · subst e
    obtain ⟨J1, hJ1⟩ := setEnts_live hi hj (fun l => remM l x)
    have hl := (List.getElem?_eq_some_iff.1 hJ1).1
    have h1 := hf1.2 k J1 hJ1
    rw [unlinkM_eq hi hx, setLinks_at hJ1, relM_at (List.getElem?_set_self hl)] at hk
    split at hk
    · rw [List.getElem?_set_self (by rw [List.length_set]; exact hl)] at hk
      cases hk
    · rw [List.getElem?_set_self hl] at hk
      cases hk
      exact ⟨h1.srt, h1.el, h1.dl, Nat.le_trans (Nat.sub_le _ _) h1.ll, h1.hl⟩
  · rw [unlinkM_get hi hj hx e] at hk
    by_cases e2 : k = i
    · rw [if_pos e2] at hk
      cases hk
      exact fine_rem (hf.2 i D hi) x
    · rw [if_neg e2] at hk
      exact hf.2 k K hk
end
end Go.Proofs.YtmilagppbepnbaaGreat
/- Rename. Condition: the tree lies as stated; the parents lead to the root. -/
namespace Go.Proofs.YtmilagppbepnbaaGreat
open Go.RowKit Go.Shelf Go.PlainAid
attribute [local go_sem] Oper.semAt_some
noncomputable def ren3 (f : Fs) (n : Nat) (x : ByteArray) (k e : Nat) (E : Ino) (y : ByteArray) : Nat × Fs :=
  if k = lookM E.ents y then (0, f) else if mayReplaceM f (dep f e) k (lookM E.ents y) e ≠ 0 then (mayReplaceM f (dep f e) k (lookM E.ents y) e, f)
  else (0, renM (if lookM E.ents y = 0 then f else unlinkM f e y) n x e y k)
noncomputable def ren2 (f : Fs) (n : Nat) (D : Ino) (x : ByteArray) (k : Nat) (J : Ino) (st : Bool) (e : Nat) (E : Ino) (y : ByteArray) : Nat × Fs :=
  if (st && !J.isDir) = true then (20, f) else if E.links = 0 then (2, f) else if (D.may 2 && E.may 2) = true then ren3 f n x k e E y else (13, f)
noncomputable def ren1 (f : Fs) (n : Nat) (D : Ino) (x : ByteArray) (k : Nat) (J : Ino) (ss st : Bool) (a : Int × ByteArray × Nat) : Nat × Fs :=
  if (ss && !J.isDir) = true then (20, f) else if a.2.2 ≠ 0 then (a.2.2, f) else match node f a.1 with
  | none => (2, f)
  | some E => ren2 f n D x k J st a.1.toNat E a.2.1
noncomputable def RenameM (f : Fs) (dir : Int) (s t : ByteArray) : Nat × Fs :=
  if (namedM f dir s).2.2.2 ≠ 0 then ((namedM f dir s).2.2.2, f) else match node f (namedM f dir s).2.2.1, node f (namedM f dir s).1 with
  | some J, some D => ren1 f (namedM f dir s).1.toNat D (namedM f dir s).2.1 (namedM f dir s).2.2.1 J (slashed s) (slashed t) (aheadM f dir t)
  | _, _ => (2, f)
section
variable {w : World} {B : Nat → Nat → Prop} {p : Nat} {f : Fs} {sv : Value} {ps : List (Option Nat)}
set_option maxRecDepth 100000 in
set_option maxHeartbeats 4000000 in
/-- Up to the test of what is replaced. -/
theorem rename_no (h : FsAt w B p f sv ps) (hf : FineF f) (hcl : Closed f) (dir : Int) (s t : ByteArray) (hs : s.size ≤ maxLen) (ht : t.size ≤ maxLen) {i j e : Nat} {D J E : Ino} {x y : ByteArray} (he : namedM f dir s = ((i : Int) + 1, x, j + 1, 0)) (ha : aheadM f dir t = ((e : Int) + 1, y, 0))
    (hi : f[i]? = some (some D)) (hj : f[j]? = some (some J)) (hE : f[e]? = some (some E)) (hx : lookM D.ents x = j + 1) (hdp : Deep f (dep f (e + 1)) (e + 1)) (hdl : (node f dir).isSome) (ho : lookM E.ents y ≠ 0 → (node f (lookM E.ents y : Int)).isSome)
    (h1 : (slashed s && !J.isDir) = false) (h2 : (slashed t && !J.isDir) = false) (h3 : E.links ≠ 0) (h4 : D.may 2 = true) (h5 : E.may 2 = true) (h6 : j + 1 ≠ lookM E.ents y) (h7 : mayReplaceM f (dep f (e + 1)) (j + 1) (lookM E.ents y) (e + 1) ≠ 0) :
    Calls Tryz.prog 153 #[.pointer (some ⟨p, 0, none⟩), .int .i64 dir, .string s, .string t] w fun r w' => r = .returned (.int .i64 (mayReplaceM f (dep f (e + 1)) (j + 1) (lookM E.ents y) (e + 1) : Nat)) ∧ FsP (All B) w w' p f := by
  have hlen : f.length ≤ 100000 := by have := hf.1; omega
  have hS := Lib.hid (fun (w1 : World) (hb : Below w.heap.size w w1) => FsP.of (show FsIs w B p f from ⟨sv, ps, h⟩) hb)
  obtain ⟨q, hq, dv, ev, hA⟩ := h.some_ i D hi
  obtain ⟨q2, hq2, dv2, ev2, hA2⟩ := h.some_ j J hj
  obtain ⟨qe, hqe, dv3, ev3, hA3⟩ := h.some_ e E hE
  have hnm := Lib.hid (named_yes h hf hcl dir s hs he hq2)
  have hdj := Lib.hid (fun (W : World) (hb : Below w.heap.size w W) => isDir_any (hA2.below hb))
  have hah := Lib.hid (fun (W : World) (hb : Below w.heap.size w W) => ((ahead_any (h.below hb) hf hcl dir hdl t ht).mono fun r w' h9 => And.intro (by rw [ha] at h9; exact h9.1) (show Below w.heap.size w w' from hb.trans (below_of h9.2 hb.size))))
  have hcE := Lib.hid (fun (W : World) (hb : Below w.heap.size w W) => show W.cell? ⟨qe, 2, none⟩ = some (.int .i64 E.links) from (hA3.below hb).blk.cell 2)
  have hndi := Lib.hid (fun (W : World) (hb : Below w.heap.size w W) => node_yes (h.below hb) hq hlen)
  have hnde := Lib.hid (fun (W : World) (hb : Below w.heap.size w W) => node_yes (h.below hb) hqe hlen)
  have hmyi := Lib.hid (fun (W : World) (hb : Below w.heap.size w W) => may_any (hA.below hb) 2)
  have hmye := Lib.hid (fun (W : World) (hb : Below w.heap.size w W) => may_any (hA3.below hb) 2)
  have hlki := Lib.hid (fun (W : World) (hb : Below w.heap.size w W) => ((lookup_any (hA.below hb) (hf.2 i D hi) x).mono fun r w' h9 => And.intro h9.1 (show Below w.heap.size w w' from hb.trans (below_of h9.2 hb.size))))
  have hlke := Lib.hid (fun (W : World) (hb : Below w.heap.size w W) => ((lookup_any (hA3.below hb) (hf.2 e E hE) y).mono fun r w' h9 => And.intro h9.1 (show Below w.heap.size w w' from hb.trans (below_of h9.2 hb.size))))
  have hmr := Lib.hid (fun (W : World) (hb : Below w.heap.size w W) => mayReplace_any (h.below hb) hf (j + 1) (lookM E.ents y) (e + 1) _ hdp ho)
  rw [h4] at hmyi
  rw [h5] at hmye
  rw [hx] at hlki
  obtain ⟨old, hold⟩ : ∃ z, lookM E.ents y = z := ⟨_, rfl⟩
  obtain ⟨mr, hmr2⟩ : ∃ z, mayReplaceM f (dep f (e + 1)) (j + 1) (lookM E.ents y) (e + 1) = z := ⟨_, rfl⟩
  rw [hmr2] at hmr h7 ⊢
  rw [hold] at hlke hmr h6
  have x3 : ((E.links : Int) == 0) = false := beq_eq_false_iff_ne.2 (by omega)
  have x6 : (((j : Int) + 1) == (old : Int)) = false := beq_eq_false_iff_ne.2 (by omega)
  have x7 : ((mr : Int) != 0) = true := bne_iff_ne.2 (by omega)
  rw [show ((j + 1 : Nat) : Int) = (j : Int) + 1 by omega] at hlki hmr
  rw [show ((e + 1 : Nat) : Int) = (e : Int) + 1 by omega] at hmr
  have hss' := Lib.hid (fun (W : World) => slashed_any s W hs)
  have hst' := Lib.hid (fun (W : World) => slashed_any t W ht)
  obtain ⟨jd, hjd⟩ : ∃ z, J.isDir = z := ⟨_, rfl⟩
  obtain ⟨sa, hsa⟩ : ∃ z, slashed s = z := ⟨_, rfl⟩
  obtain ⟨ta, hta⟩ : ∃ z, slashed t = z := ⟨_, rfl⟩
  rw [hjd] at hdj h1 h2
  rw [hsa] at hss' h1
  rw [hta] at hst' h2
  clear h hf hcl he ha hi hj hE hx hdp hdl ho h3 h4 h5 hA hA2 hA3 hq hq2 hqe hold hmr2 hjd hsa hta h6 h7
  cases jd <;> cases sa <;> cases ta <;> first | (exfalso; revert h1 h2; decide) | skip
  all_goals
    clear h1 h2
    go_enter Tryz.func153, Tryz.ntmps153
    go_wp2_with (first | (go_at_call 206; refine hnm.out.mono ?_; rintro e w1 ⟨rfl, hb1⟩) | (go_at_call 207; with_reducible refine (hst'.out _).mono ?_; rintro e w' ⟨rfl, rfl⟩) | (go_at_call 207; with_reducible refine (hss'.out _).mono ?_; rintro e w' ⟨rfl, rfl⟩) | (go_at_call 132; refine (hdj.out _ hb2).mono ?_; rintro e w' ⟨rfl, rfl⟩) | (go_at_call 132; refine (hdj.out _ hb1).mono ?_; rintro e w' ⟨rfl, rfl⟩) | (go_at_call 210; refine (hah.out _ hb1).mono ?_; rintro e w2 ⟨rfl, hb2⟩; have cE := hcE.out _ hb2) | (go_at_call 58; with_reducible refine (hndi.out _ hb3).mono ?_; rintro e w' ⟨rfl, rfl⟩) | (go_at_call 58; with_reducible refine (hnde.out _ hb3).mono ?_; rintro e w' ⟨rfl, rfl⟩) | (go_at_call 58; with_reducible refine (hndi.out _ hb2).mono ?_; rintro e w' ⟨rfl, rfl⟩) | (go_at_call 58; with_reducible refine (hnde.out _ hb2).mono ?_; rintro e w' ⟨rfl, rfl⟩) | (go_at_call 208; with_reducible refine (hmyi.out _ hb2).mono ?_; rintro e w' ⟨rfl, rfl⟩) | (go_at_call 208; with_reducible refine (hmye.out _ hb2).mono ?_; rintro e w' ⟨rfl, rfl⟩) | (go_at_call 131; with_reducible refine (hlke.out _ hb3).mono ?_; rintro e w4 ⟨rfl, hb4⟩) | (go_at_call 131; with_reducible refine (hlki.out _ hb2).mono ?_; rintro e w3 ⟨rfl, hb3⟩) | (go_at_call 212; refine (hmr.out _ hb4).mono ?_; rintro e w' ⟨rfl, rfl⟩))
    go_ret
    exact ⟨rfl, hS.out _ hb4⟩
end
end Go.Proofs.YtmilagppbepnbaaGreat
/- Rename to a new name. Condition: the tree lies as stated; the parents lead to the root. -/
namespace Go.Proofs.YtmilagppbepnbaaGreat
open Go.RowKit Go.Shelf Go.PlainAid
attribute [local go_sem] Oper.semAt_some
section
variable {w : World} {B : Nat → Nat → Prop} {p : Nat} {f : Fs} {sv : Value} {ps : List (Option Nat)}
set_option maxRecDepth 100000 in
set_option maxHeartbeats 4000000 in
/-- To a new name. -/
theorem rename_new (h : FsAt w B p f sv ps) (hf : FineF f) (hcl : Closed f) (dir : Int) (s t : ByteArray) (hs : s.size ≤ maxLen) (ht : t.size ≤ maxLen) {i j e : Nat} {D J E : Ino} {x y : ByteArray} (he : namedM f dir s = ((i : Int) + 1, x, j + 1, 0)) (ha : aheadM f dir t = ((e : Int) + 1, y, 0))
    (hi : f[i]? = some (some D)) (hj : f[j]? = some (some J)) (hE : f[e]? = some (some E)) (hx : lookM D.ents x = j + 1) (hdp : Deep f (dep f (e + 1)) (e + 1)) (hdl : (node f dir).isSome) (ho : lookM E.ents y ≠ 0 → (node f (lookM E.ents y : Int)).isSome)
    (h1 : (slashed s && !J.isDir) = false) (h2 : (slashed t && !J.isDir) = false) (h3 : E.links ≠ 0) (h4 : D.may 2 = true) (h5 : E.may 2 = true) (h6 : lookM E.ents y = 0) (h7 : mayReplaceM f (dep f (e + 1)) (j + 1) (lookM E.ents y) (e + 1) = 0) :
    Calls Tryz.prog 153 #[.pointer (some ⟨p, 0, none⟩), .int .i64 dir, .string s, .string t] w fun r w' => r = .returned (.int .i64 0) ∧ FsP (All B) w w' p (renM f (i + 1) x (e + 1) y (j + 1)) := by
  have hlen : f.length ≤ 100000 := by have := hf.1; omega
  have hS := Lib.hid (fun (w1 : World) (hb : Below w.heap.size w w1) => FsP.of (show FsIs w B p f from ⟨sv, ps, h⟩) hb)
  obtain ⟨q, hq, dv, ev, hA⟩ := h.some_ i D hi
  obtain ⟨q2, hq2, dv2, ev2, hA2⟩ := h.some_ j J hj
  obtain ⟨qe, hqe, dv3, ev3, hA3⟩ := h.some_ e E hE
  have hnm := Lib.hid (named_yes h hf hcl dir s hs he hq2)
  have hdj := Lib.hid (fun (W : World) (hb : Below w.heap.size w W) => isDir_any (hA2.below hb))
  have hah := Lib.hid (fun (W : World) (hb : Below w.heap.size w W) => ((ahead_any (h.below hb) hf hcl dir hdl t ht).mono fun r w' h9 => And.intro (by rw [ha] at h9; exact h9.1) (show Below w.heap.size w w' from hb.trans (below_of h9.2 hb.size))))
  have hcE := Lib.hid (fun (W : World) (hb : Below w.heap.size w W) => show W.cell? ⟨qe, 2, none⟩ = some (.int .i64 E.links) from (hA3.below hb).blk.cell 2)
  have hndi := Lib.hid (fun (W : World) (hb : Below w.heap.size w W) => node_yes (h.below hb) hq hlen)
  have hnde := Lib.hid (fun (W : World) (hb : Below w.heap.size w W) => node_yes (h.below hb) hqe hlen)
  have hmyi := Lib.hid (fun (W : World) (hb : Below w.heap.size w W) => may_any (hA.below hb) 2)
  have hmye := Lib.hid (fun (W : World) (hb : Below w.heap.size w W) => may_any (hA3.below hb) 2)
  have hlki := Lib.hid (fun (W : World) (hb : Below w.heap.size w W) => ((lookup_any (hA.below hb) (hf.2 i D hi) x).mono fun r w' h9 => And.intro h9.1 (show Below w.heap.size w w' from hb.trans (below_of h9.2 hb.size))))
  have hlke := Lib.hid (fun (W : World) (hb : Below w.heap.size w W) => ((lookup_any (hA3.below hb) (hf.2 e E hE) y).mono fun r w' h9 => And.intro h9.1 (show Below w.heap.size w w' from hb.trans (below_of h9.2 hb.size))))
  have hmr := Lib.hid (fun (W : World) (hb : Below w.heap.size w W) => mayReplace_any (h.below hb) hf (j + 1) (lookM E.ents y) (e + 1) _ hdp ho)
  rw [h4] at hmyi
  rw [h5] at hmye
  rw [hx] at hlki
  rw [h7] at hmr
  rw [h6] at hlke hmr
  have hfe : ∀ E', (setEnts f (i + 1) (fun l => remM l x))[e]? = some (some E') → Fine E' := fun E' hE' => (setEnts_fine hf hi).2 e E' hE'
  have hren := Lib.hid (fun (W : World) (hb : Below w.heap.size w W) => ren_tail (h.below hb) hf hi hE hj hq2 x y hfe)
  have hfin := Lib.hid (fun (W W' : World) (hb : Below w.heap.size w W) (k : FsP (All B) W W' p (renM f (i + 1) x (e + 1) y (j + 1))) => FsP.after hb k)
  have x3 : ((E.links : Int) == 0) = false := beq_eq_false_iff_ne.2 (by omega)
  have x6 : (((j : Int) + 1) == 0) = false := beq_eq_false_iff_ne.2 (by omega)
  rw [show ((j + 1 : Nat) : Int) = (j : Int) + 1 by omega] at hlki hmr
  rw [show ((e + 1 : Nat) : Int) = (e : Int) + 1 by omega] at hmr
  have hss' := Lib.hid (fun (W : World) => slashed_any s W hs)
  have hst' := Lib.hid (fun (W : World) => slashed_any t W ht)
  obtain ⟨jd, hjd⟩ : ∃ z, J.isDir = z := ⟨_, rfl⟩
  obtain ⟨sa, hsa⟩ : ∃ z, slashed s = z := ⟨_, rfl⟩
  obtain ⟨ta, hta⟩ : ∃ z, slashed t = z := ⟨_, rfl⟩
  rw [hjd] at hdj h1 h2
  rw [hsa] at hss' h1
  rw [hta] at hst' h2
  clear h hf hcl he ha hi hj hE hx hdp hdl ho h3 h4 h5 hA hA2 hA3 hq hq2 hqe hfe hS hjd hsa hta h6 h7
  cases jd <;> cases sa <;> cases ta <;> first | (exfalso; revert h1 h2; decide) | skip
  all_goals
    clear h1 h2
    go_enter Tryz.func153, Tryz.ntmps153
    go_wp2_with (first | (go_at_call 206; refine hnm.out.mono ?_; rintro e w1 ⟨rfl, hb1⟩) | (go_at_call 207; with_reducible refine (hst'.out _).mono ?_; rintro e w' ⟨rfl, rfl⟩) | (go_at_call 207; with_reducible refine (hss'.out _).mono ?_; rintro e w' ⟨rfl, rfl⟩) | (go_at_call 132; refine (hdj.out _ hb2).mono ?_; rintro e w' ⟨rfl, rfl⟩) | (go_at_call 132; refine (hdj.out _ hb1).mono ?_; rintro e w' ⟨rfl, rfl⟩) | (go_at_call 210; refine (hah.out _ hb1).mono ?_; rintro e w2 ⟨rfl, hb2⟩; have cE := hcE.out _ hb2) | (go_at_call 58; with_reducible refine hn1.mono ?_; rintro e w' ⟨rfl, rfl⟩) | (go_at_call 58; with_reducible refine hn0.mono ?_; rintro e w' ⟨rfl, rfl⟩) | (go_at_call 58; with_reducible refine (hndi.out _ hb3).mono ?_; rintro e w' ⟨rfl, rfl⟩) | (go_at_call 58; with_reducible refine (hnde.out _ hb3).mono ?_; rintro e w' ⟨rfl, rfl⟩) | (go_at_call 58; with_reducible refine (hndi.out _ hb2).mono ?_; rintro e w' ⟨rfl, rfl⟩) | (go_at_call 58; with_reducible refine (hnde.out _ hb2).mono ?_; rintro e w' ⟨rfl, rfl⟩) | (go_at_call 208; with_reducible refine (hmyi.out _ hb2).mono ?_; rintro e w' ⟨rfl, rfl⟩) | (go_at_call 208; with_reducible refine (hmye.out _ hb2).mono ?_; rintro e w' ⟨rfl, rfl⟩) | (go_at_call 131; with_reducible refine (hlke.out _ hb3).mono ?_; rintro e w4 ⟨rfl, hb4⟩) | (go_at_call 131; with_reducible refine (hlki.out _ hb2).mono ?_; rintro e w3 ⟨rfl, hb3⟩) | (go_at_call 212; refine (hmr.out _ hb4).mono ?_; rintro e w' ⟨rfl, rfl⟩; obtain ⟨q0, hn0, hr0⟩ := hren.out _ hb4) | (go_at_call 213; refine hr0.mono ?_; rintro e w5 ⟨rfl, qe0, hn1, ha1⟩) | (go_at_call 214; refine ha1.mono ?_; rintro e w6 ⟨rfl, ⟨v6, c6⟩, g6, hP6⟩))
    go_ret
    exact ⟨rfl, hfin.out _ _ hb4 hP6⟩
end
end Go.Proofs.YtmilagppbepnbaaGreat
/- Rename over what is there. Condition: the tree lies as stated; the parents lead to the root. -/
namespace Go.Proofs.YtmilagppbepnbaaGreat
open Go.RowKit Go.Shelf Go.PlainAid
attribute [local go_sem] Oper.semAt_some
theorem unlinkM_live {f : Fs} {i j k : Nat} {D J K : Ino} {x : ByteArray} (hi : f[i]? = some (some D)) (hj : f[j]? = some (some J)) (hx : lookM D.ents x = j + 1) (hk : k ≠ j) (hK : f[k]? = some (some K)) : ∃ K1, (unlinkM f (i + 1) x)[k]? = some (some K1) := by
  rw [unlinkM_get hi hj hx hk]
  split
  · exact ⟨_, rfl⟩
  · exact ⟨K, hK⟩
/-- What Rename's tail does, from a world on. -/
def TailQ (p : Nat) (W w : World) (O : Nat → Prop) (i e j q2 : Nat) (x y : ByteArray) (f : Fs) : Prop :=
  ∃ q, Calls Tryz.prog 58 #[.pointer (some ⟨p, 0, none⟩), .int .i64 ((i : Int) + 1)] w (fun r w' => r = .returned (.pointer (some ⟨q, 0, none⟩)) ∧ w' = w) ∧
    Calls Tryz.prog 213 #[.pointer (some ⟨q, 0, none⟩), .string x] w (fun r w2 => r = .returned (.tuple #[]) ∧ ∃ qe,
      Calls Tryz.prog 58 #[.pointer (some ⟨p, 0, none⟩), .int .i64 ((e : Int) + 1)] w2 (fun r w' => r = .returned (.pointer (some ⟨qe, 0, none⟩)) ∧ w' = w2) ∧
      Calls Tryz.prog 214 #[.pointer (some ⟨qe, 0, none⟩), .string y, .int .i64 ((j : Int) + 1)] w2 (fun r w3 => r = .returned (.tuple #[]) ∧
        (∃ v, w3.cell? ⟨q2, 6, none⟩ = some v) ∧ w3.frozen? ⟨q2, 6, none⟩ = false ∧
        FsP O W (w3.setCell ⟨q2, 6, none⟩ (.int .i64 ((e : Int) + 1))) p (renM f (i + 1) x (e + 1) y (j + 1))))
section
variable {w : World} {B : Nat → Nat → Prop} {p : Nat} {f : Fs} {sv : Value} {ps : List (Option Nat)}
set_option maxRecDepth 100000 in
set_option maxHeartbeats 4000000 in
/-- Over what is there. -/
theorem rename_over (h : FsAt w B p f sv ps) (hf : FineF f) (hcl : Closed f) (dir : Int) (s t : ByteArray) (hs : s.size ≤ maxLen) (ht : t.size ≤ maxLen) {i j e jo : Nat} {D J E O : Ino} {x y : ByteArray} (he : namedM f dir s = ((i : Int) + 1, x, j + 1, 0)) (ha : aheadM f dir t = ((e : Int) + 1, y, 0))
    (hi : f[i]? = some (some D)) (hj : f[j]? = some (some J)) (hE : f[e]? = some (some E)) (hx : lookM D.ents x = j + 1) (hdp : Deep f (dep f (e + 1)) (e + 1)) (hdl : (node f dir).isSome) (ho : lookM E.ents y ≠ 0 → (node f (lookM E.ents y : Int)).isSome)
    (h1 : (slashed s && !J.isDir) = false) (h2 : (slashed t && !J.isDir) = false) (h3 : E.links ≠ 0) (h4 : D.may 2 = true) (h5 : E.may 2 = true) (h6 : lookM E.ents y = jo + 1) (hO : f[jo]? = some (some O)) (hOl : 1 ≤ O.links) (n1 : i ≠ jo) (n2 : e ≠ jo) (n3 : j ≠ jo) (h7 : mayReplaceM f (dep f (e + 1)) (j + 1) (lookM E.ents y) (e + 1) = 0) :
    Calls Tryz.prog 153 #[.pointer (some ⟨p, 0, none⟩), .int .i64 dir, .string s, .string t] w fun r w' => r = .returned (.int .i64 0) ∧ FsP (All B) w w' p (renM (unlinkM f (e + 1) y) (i + 1) x (e + 1) y (j + 1)) := by
  have hlen : f.length ≤ 100000 := by have := hf.1; omega
  have hS := Lib.hid (fun (w1 : World) (hb : Below w.heap.size w w1) => FsP.of (show FsIs w B p f from ⟨sv, ps, h⟩) hb)
  obtain ⟨q, hq, dv, ev, hA⟩ := h.some_ i D hi
  obtain ⟨q2, hq2, dv2, ev2, hA2⟩ := h.some_ j J hj
  obtain ⟨qe, hqe, dv3, ev3, hA3⟩ := h.some_ e E hE
  have hnm := Lib.hid (named_yes h hf hcl dir s hs he hq2)
  have hdj := Lib.hid (fun (W : World) (hb : Below w.heap.size w W) => isDir_any (hA2.below hb))
  have hah := Lib.hid (fun (W : World) (hb : Below w.heap.size w W) => ((ahead_any (h.below hb) hf hcl dir hdl t ht).mono fun r w' h9 => And.intro (by rw [ha] at h9; exact h9.1) (show Below w.heap.size w w' from hb.trans (below_of h9.2 hb.size))))
  have hcE := Lib.hid (fun (W : World) (hb : Below w.heap.size w W) => show W.cell? ⟨qe, 2, none⟩ = some (.int .i64 E.links) from (hA3.below hb).blk.cell 2)
  have hndi := Lib.hid (fun (W : World) (hb : Below w.heap.size w W) => node_yes (h.below hb) hq hlen)
  have hnde := Lib.hid (fun (W : World) (hb : Below w.heap.size w W) => node_yes (h.below hb) hqe hlen)
  have hmyi := Lib.hid (fun (W : World) (hb : Below w.heap.size w W) => may_any (hA.below hb) 2)
  have hmye := Lib.hid (fun (W : World) (hb : Below w.heap.size w W) => may_any (hA3.below hb) 2)
  have hlki := Lib.hid (fun (W : World) (hb : Below w.heap.size w W) => ((lookup_any (hA.below hb) (hf.2 i D hi) x).mono fun r w' h9 => And.intro h9.1 (show Below w.heap.size w w' from hb.trans (below_of h9.2 hb.size))))
  have hlke := Lib.hid (fun (W : World) (hb : Below w.heap.size w W) => ((lookup_any (hA3.below hb) (hf.2 e E hE) y).mono fun r w' h9 => And.intro h9.1 (show Below w.heap.size w w' from hb.trans (below_of h9.2 hb.size))))
  have hmr := Lib.hid (fun (W : World) (hb : Below w.heap.size w W) => mayReplace_any (h.below hb) hf (j + 1) (lookM E.ents y) (e + 1) _ hdp ho)
  rw [h4] at hmyi
  rw [h5] at hmye
  rw [hx] at hlki
  rw [h7] at hmr
  rw [h6] at hlke hmr
  have hf1 := unlinkM_fine hf hE hO h6
  obtain ⟨D1, hi1⟩ := unlinkM_live hE hO h6 n1 hi
  obtain ⟨E1, hE1⟩ := unlinkM_live hE hO h6 n2 hE
  obtain ⟨J1, hj1⟩ := unlinkM_live hE hO h6 n3 hj
  have hfe : ∀ E', (setEnts (unlinkM f (e + 1) y) (i + 1) (fun l => remM l x))[e]? = some (some E') → Fine E' := fun E' hE' => (setEnts_fine hf1 hi1).2 e E' hE'
  have hun := Lib.hid (fun (W : World) (hb : Below w.heap.size w W) => (unlinkQ_any (h.below hb) hf hE hO y h6 hOl).mono fun r w5 h9 => And.intro h9.1 (show TailQ p W w5 (All B) i e j q2 x y (unlinkM f (e + 1) y) by
    obtain ⟨ps', ⟨B1, sv1, k1, k2, k3⟩, k4⟩ := h9.2
    obtain ⟨q0, e1, e2⟩ := ren_tail k1 hf1 hi1 hE1 hj1 ((k4 j n3).trans hq2) x y hfe
    exact ⟨q0, e1, e2.mono fun r w6 ⟨m1, qe0, m2, m3⟩ => ⟨m1, qe0, m2, m3.mono fun r w7 ⟨l1, l2, l3, l4⟩ => ⟨l1, l2, l3, FsP.join k2 k3 l4⟩⟩⟩))
  have hfin := Lib.hid (fun (W W' : World) (hb : Below w.heap.size w W) (k : FsP (All B) W W' p (renM (unlinkM f (e + 1) y) (i + 1) x (e + 1) y (j + 1))) => FsP.after hb k)
  have x3 : ((E.links : Int) == 0) = false := beq_eq_false_iff_ne.2 (by omega)
  have x6 : ((j : Int) == (jo : Int)) = false := beq_eq_false_iff_ne.2 (by omega)
  have x7 : (((jo : Int) + 1) != 0) = true := bne_iff_ne.2 (by omega)
  have x8 : (((j : Int) + 1) == ((jo : Int) + 1)) = false := beq_eq_false_iff_ne.2 (by omega)
  rw [show ((j + 1 : Nat) : Int) = (j : Int) + 1 by omega] at hlki hmr
  rw [show ((jo + 1 : Nat) : Int) = (jo : Int) + 1 by omega] at hlke hmr
  rw [show ((e + 1 : Nat) : Int) = (e : Int) + 1 by omega] at hmr
  have hss' := Lib.hid (fun (W : World) => slashed_any s W hs)
  have hst' := Lib.hid (fun (W : World) => slashed_any t W ht)
  obtain ⟨jd, hjd⟩ : ∃ z, J.isDir = z := ⟨_, rfl⟩
  obtain ⟨sa, hsa⟩ : ∃ z, slashed s = z := ⟨_, rfl⟩
  obtain ⟨ta, hta⟩ : ∃ z, slashed t = z := ⟨_, rfl⟩
  rw [hjd] at hdj h1 h2
  rw [hsa] at hss' h1
  rw [hta] at hst' h2
  clear h hf hcl he ha hi hj hE hx hdp hdl ho h3 h4 h5 hA hA2 hA3 hq hq2 hqe hfe hS hf1 hi1 hE1 hj1 hO hOl n1 n2 n3 hjd hsa hta h6 h7
  cases jd <;> cases sa <;> cases ta <;> first | (exfalso; revert h1 h2; decide) | skip
  all_goals
    clear h1 h2
    go_enter Tryz.func153, Tryz.ntmps153
    go_wp2_with (first | (go_at_call 206; refine hnm.out.mono ?_; rintro e w1 ⟨rfl, hb1⟩) | (go_at_call 207; with_reducible refine (hst'.out _).mono ?_; rintro e w' ⟨rfl, rfl⟩) | (go_at_call 207; with_reducible refine (hss'.out _).mono ?_; rintro e w' ⟨rfl, rfl⟩) | (go_at_call 132; refine (hdj.out _ hb2).mono ?_; rintro e w' ⟨rfl, rfl⟩) | (go_at_call 132; refine (hdj.out _ hb1).mono ?_; rintro e w' ⟨rfl, rfl⟩) | (go_at_call 210; refine (hah.out _ hb1).mono ?_; rintro e w2 ⟨rfl, hb2⟩; have cE := hcE.out _ hb2) | (go_at_call 58; with_reducible refine hn1.mono ?_; rintro e w' ⟨rfl, rfl⟩) | (go_at_call 58; with_reducible refine hn0.mono ?_; rintro e w' ⟨rfl, rfl⟩) | (go_at_call 58; with_reducible refine (hndi.out _ hb3).mono ?_; rintro e w' ⟨rfl, rfl⟩) | (go_at_call 58; with_reducible refine (hnde.out _ hb3).mono ?_; rintro e w' ⟨rfl, rfl⟩) | (go_at_call 58; with_reducible refine (hndi.out _ hb2).mono ?_; rintro e w' ⟨rfl, rfl⟩) | (go_at_call 58; with_reducible refine (hnde.out _ hb2).mono ?_; rintro e w' ⟨rfl, rfl⟩) | (go_at_call 208; with_reducible refine (hmyi.out _ hb2).mono ?_; rintro e w' ⟨rfl, rfl⟩) | (go_at_call 208; with_reducible refine (hmye.out _ hb2).mono ?_; rintro e w' ⟨rfl, rfl⟩) | (go_at_call 131; with_reducible refine (hlke.out _ hb3).mono ?_; rintro e w4 ⟨rfl, hb4⟩) | (go_at_call 131; with_reducible refine (hlki.out _ hb2).mono ?_; rintro e w3 ⟨rfl, hb3⟩) | (go_at_call 212; refine (hmr.out _ hb4).mono ?_; rintro e w' ⟨rfl, rfl⟩) | (go_at_call 209; refine (hun.out _ hb4).mono ?_; rintro e w5 ⟨rfl, q0, hn0, hr0⟩) | (go_at_call 213; refine hr0.mono ?_; rintro e w6 ⟨rfl, qe0, hn1, ha1⟩) | (go_at_call 214; refine ha1.mono ?_; rintro e w7 ⟨rfl, ⟨v6, c6⟩, g6, hP6⟩))
    go_ret
    exact ⟨rfl, hfin.out _ _ hb4 hP6⟩
end
end Go.Proofs.YtmilagppbepnbaaGreat
/- Rename: ways out. Condition: the tree lies as stated. -/
namespace Go.Proofs.YtmilagppbepnbaaGreat
open Go.RowKit Go.Shelf Go.PlainAid
attribute [local go_sem] Oper.semAt_some
set_option linter.unusedVariables false
section
variable {w : World} {B : Nat → Nat → Prop} {p : Nat} {f : Fs} {sv : Value} {ps : List (Option Nat)}
set_option maxRecDepth 100000 in
set_option maxHeartbeats 4000000 in
/-- One of its ways out. -/
theorem rename_same (h : FsAt w B p f sv ps) (hf : FineF f) (hcl : Closed f) (dir : Int) (s t : ByteArray) (hs : s.size ≤ maxLen) (ht : t.size ≤ maxLen) {i j e : Nat} {D J E : Ino} {x y : ByteArray} (he : namedM f dir s = ((i : Int) + 1, x, j + 1, 0)) (ha : aheadM f dir t = ((e : Int) + 1, y, 0))
    (hi : f[i]? = some (some D)) (hj : f[j]? = some (some J)) (hE : f[e]? = some (some E)) (hx : lookM D.ents x = j + 1) (hdl : (node f dir).isSome)
    (h1 : (slashed s && !J.isDir) = false) (h2 : (slashed t && !J.isDir) = false) (h3 : E.links ≠ 0) (h4 : D.may 2 = true) (h5 : E.may 2 = true) (h6 : lookM E.ents y = j + 1) :
    Calls Tryz.prog 153 #[.pointer (some ⟨p, 0, none⟩), .int .i64 dir, .string s, .string t] w fun r w' => r = .returned (.int .i64 0) ∧ FsP (All B) w w' p f := by
  have hlen : f.length ≤ 100000 := by have := hf.1; omega
  have hS := Lib.hid (fun (w1 : World) (hb : Below w.heap.size w w1) => FsP.of (show FsIs w B p f from ⟨sv, ps, h⟩) hb)
  obtain ⟨q, hq, dv, ev, hA⟩ := h.some_ i D hi
  obtain ⟨q2, hq2, dv2, ev2, hA2⟩ := h.some_ j J hj
  obtain ⟨qe, hqe, dv3, ev3, hA3⟩ := h.some_ e E hE
  have hnm := Lib.hid (named_yes h hf hcl dir s hs he hq2)
  have hdj := Lib.hid (fun (W : World) (hb : Below w.heap.size w W) => isDir_any (hA2.below hb))
  have hah := Lib.hid (fun (W : World) (hb : Below w.heap.size w W) => ((ahead_any (h.below hb) hf hcl dir hdl t ht).mono fun r w' h9 => And.intro (by rw [ha] at h9; exact h9.1) (show Below w.heap.size w w' from hb.trans (below_of h9.2 hb.size))))
  have hcE := Lib.hid (fun (W : World) (hb : Below w.heap.size w W) => show W.cell? ⟨qe, 2, none⟩ = some (.int .i64 E.links) from (hA3.below hb).blk.cell 2)
  have hndi := Lib.hid (fun (W : World) (hb : Below w.heap.size w W) => node_yes (h.below hb) hq hlen)
  have hnde := Lib.hid (fun (W : World) (hb : Below w.heap.size w W) => node_yes (h.below hb) hqe hlen)
  have hmyi := Lib.hid (fun (W : World) (hb : Below w.heap.size w W) => may_any (hA.below hb) 2)
  have hmye := Lib.hid (fun (W : World) (hb : Below w.heap.size w W) => may_any (hA3.below hb) 2)
  have hlki := Lib.hid (fun (W : World) (hb : Below w.heap.size w W) => ((lookup_any (hA.below hb) (hf.2 i D hi) x).mono fun r w' h9 => And.intro h9.1 (show Below w.heap.size w w' from hb.trans (below_of h9.2 hb.size))))
  have hlke := Lib.hid (fun (W : World) (hb : Below w.heap.size w W) => ((lookup_any (hA3.below hb) (hf.2 e E hE) y).mono fun r w' h9 => And.intro h9.1 (show Below w.heap.size w w' from hb.trans (below_of h9.2 hb.size))))
  rw [h4] at hmyi
  rw [h5] at hmye
  rw [hx] at hlki
  rw [h6] at hlke
  have x3 : ((E.links : Int) == 0) = false := beq_eq_false_iff_ne.2 (by omega)
  have hss' := Lib.hid (fun (W : World) => slashed_any s W hs)
  have hst' := Lib.hid (fun (W : World) => slashed_any t W ht)
  obtain ⟨jd, hjd⟩ : ∃ z, J.isDir = z := ⟨_, rfl⟩
  obtain ⟨sa, hsa⟩ : ∃ z, slashed s = z := ⟨_, rfl⟩
  obtain ⟨ta, hta⟩ : ∃ z, slashed t = z := ⟨_, rfl⟩
  rw [hjd] at hdj h1 h2
  rw [hsa] at hss' h1
  rw [hta] at hst' h2
  clear h hf hcl he ha hi hj hE hx hdl hA hA2 hA3 hq hq2 hqe hjd hsa hta h3 h4 h5 h6
  cases jd <;> cases sa <;> cases ta <;> first | (exfalso; revert h1 h2; decide) | skip
  all_goals
    clear h1 h2
    go_enter Tryz.func153, Tryz.ntmps153
    go_wp2_with (first | (go_at_call 206; refine hnm.out.mono ?_; rintro e w1 ⟨rfl, hb1⟩) | (go_at_call 207; with_reducible refine (hst'.out _).mono ?_; rintro e w' ⟨rfl, rfl⟩) | (go_at_call 207; with_reducible refine (hss'.out _).mono ?_; rintro e w' ⟨rfl, rfl⟩) | (go_at_call 132; refine (hdj.out _ hb2).mono ?_; rintro e w' ⟨rfl, rfl⟩) | (go_at_call 132; refine (hdj.out _ hb1).mono ?_; rintro e w' ⟨rfl, rfl⟩) | (go_at_call 210; refine (hah.out _ hb1).mono ?_; rintro e w2 ⟨rfl, hb2⟩; have cE := hcE.out _ hb2) | (go_at_call 58; with_reducible refine (hndi.out _ hb3).mono ?_; rintro e w' ⟨rfl, rfl⟩) | (go_at_call 58; with_reducible refine (hnde.out _ hb3).mono ?_; rintro e w' ⟨rfl, rfl⟩) | (go_at_call 58; with_reducible refine (hndi.out _ hb2).mono ?_; rintro e w' ⟨rfl, rfl⟩) | (go_at_call 58; with_reducible refine (hnde.out _ hb2).mono ?_; rintro e w' ⟨rfl, rfl⟩) | (go_at_call 208; with_reducible refine (hmyi.out _ hb2).mono ?_; rintro e w' ⟨rfl, rfl⟩) | (go_at_call 208; with_reducible refine (hmye.out _ hb2).mono ?_; rintro e w' ⟨rfl, rfl⟩) | (go_at_call 131; with_reducible refine (hlke.out _ hb3).mono ?_; rintro e w4 ⟨rfl, hb4⟩) | (go_at_call 131; with_reducible refine (hlki.out _ hb2).mono ?_; rintro e w3 ⟨rfl, hb3⟩))
    go_ret
    exact ⟨rfl, hS.out _ hb4⟩
set_option maxRecDepth 100000 in
set_option maxHeartbeats 4000000 in
/-- One of its ways out. -/
theorem rename_may1 (h : FsAt w B p f sv ps) (hf : FineF f) (hcl : Closed f) (dir : Int) (s t : ByteArray) (hs : s.size ≤ maxLen) (ht : t.size ≤ maxLen) {i j e : Nat} {D J E : Ino} {x y : ByteArray} (he : namedM f dir s = ((i : Int) + 1, x, j + 1, 0)) (ha : aheadM f dir t = ((e : Int) + 1, y, 0))
    (hi : f[i]? = some (some D)) (hj : f[j]? = some (some J)) (hE : f[e]? = some (some E)) (hx : lookM D.ents x = j + 1) (hdl : (node f dir).isSome)
    (h1 : (slashed s && !J.isDir) = false) (h2 : (slashed t && !J.isDir) = false) (h3 : E.links ≠ 0) (h4 : D.may 2 = false) :
    Calls Tryz.prog 153 #[.pointer (some ⟨p, 0, none⟩), .int .i64 dir, .string s, .string t] w fun r w' => r = .returned (.int .i64 13) ∧ FsP (All B) w w' p f := by
  have hlen : f.length ≤ 100000 := by have := hf.1; omega
  have hS := Lib.hid (fun (w1 : World) (hb : Below w.heap.size w w1) => FsP.of (show FsIs w B p f from ⟨sv, ps, h⟩) hb)
  obtain ⟨q, hq, dv, ev, hA⟩ := h.some_ i D hi
  obtain ⟨q2, hq2, dv2, ev2, hA2⟩ := h.some_ j J hj
  obtain ⟨qe, hqe, dv3, ev3, hA3⟩ := h.some_ e E hE
  have hnm := Lib.hid (named_yes h hf hcl dir s hs he hq2)
  have hdj := Lib.hid (fun (W : World) (hb : Below w.heap.size w W) => isDir_any (hA2.below hb))
  have hah := Lib.hid (fun (W : World) (hb : Below w.heap.size w W) => ((ahead_any (h.below hb) hf hcl dir hdl t ht).mono fun r w' h9 => And.intro (by rw [ha] at h9; exact h9.1) (show Below w.heap.size w w' from hb.trans (below_of h9.2 hb.size))))
  have hcE := Lib.hid (fun (W : World) (hb : Below w.heap.size w W) => show W.cell? ⟨qe, 2, none⟩ = some (.int .i64 E.links) from (hA3.below hb).blk.cell 2)
  have hndi := Lib.hid (fun (W : World) (hb : Below w.heap.size w W) => node_yes (h.below hb) hq hlen)
  have hnde := Lib.hid (fun (W : World) (hb : Below w.heap.size w W) => node_yes (h.below hb) hqe hlen)
  have hmyi := Lib.hid (fun (W : World) (hb : Below w.heap.size w W) => may_any (hA.below hb) 2)
  have hmye := Lib.hid (fun (W : World) (hb : Below w.heap.size w W) => may_any (hA3.below hb) 2)
  have hlki := Lib.hid (fun (W : World) (hb : Below w.heap.size w W) => ((lookup_any (hA.below hb) (hf.2 i D hi) x).mono fun r w' h9 => And.intro h9.1 (show Below w.heap.size w w' from hb.trans (below_of h9.2 hb.size))))
  have hlke := Lib.hid (fun (W : World) (hb : Below w.heap.size w W) => ((lookup_any (hA3.below hb) (hf.2 e E hE) y).mono fun r w' h9 => And.intro h9.1 (show Below w.heap.size w w' from hb.trans (below_of h9.2 hb.size))))
  rw [h4] at hmyi
  have x3 : ((E.links : Int) == 0) = false := beq_eq_false_iff_ne.2 (by omega)
  have hss' := Lib.hid (fun (W : World) => slashed_any s W hs)
  have hst' := Lib.hid (fun (W : World) => slashed_any t W ht)
  obtain ⟨jd, hjd⟩ : ∃ z, J.isDir = z := ⟨_, rfl⟩
  obtain ⟨sa, hsa⟩ : ∃ z, slashed s = z := ⟨_, rfl⟩
  obtain ⟨ta, hta⟩ : ∃ z, slashed t = z := ⟨_, rfl⟩
  rw [hjd] at hdj h1 h2
  rw [hsa] at hss' h1
  rw [hta] at hst' h2
  clear h hf hcl he ha hi hj hE hx hdl hA hA2 hA3 hq hq2 hqe hjd hsa hta h3 h4 hlki hlke hmye
  cases jd <;> cases sa <;> cases ta <;> first | (exfalso; revert h1 h2; decide) | skip
  all_goals
    clear h1 h2
    go_enter Tryz.func153, Tryz.ntmps153
    go_wp2_with (first | (go_at_call 206; refine hnm.out.mono ?_; rintro e w1 ⟨rfl, hb1⟩) | (go_at_call 207; with_reducible refine (hst'.out _).mono ?_; rintro e w' ⟨rfl, rfl⟩) | (go_at_call 207; with_reducible refine (hss'.out _).mono ?_; rintro e w' ⟨rfl, rfl⟩) | (go_at_call 132; refine (hdj.out _ hb2).mono ?_; rintro e w' ⟨rfl, rfl⟩) | (go_at_call 132; refine (hdj.out _ hb1).mono ?_; rintro e w' ⟨rfl, rfl⟩) | (go_at_call 210; refine (hah.out _ hb1).mono ?_; rintro e w2 ⟨rfl, hb2⟩; have cE := hcE.out _ hb2) | (go_at_call 58; with_reducible refine (hndi.out _ hb3).mono ?_; rintro e w' ⟨rfl, rfl⟩) | (go_at_call 58; with_reducible refine (hnde.out _ hb3).mono ?_; rintro e w' ⟨rfl, rfl⟩) | (go_at_call 58; with_reducible refine (hndi.out _ hb2).mono ?_; rintro e w' ⟨rfl, rfl⟩) | (go_at_call 58; with_reducible refine (hnde.out _ hb2).mono ?_; rintro e w' ⟨rfl, rfl⟩) | (go_at_call 208; with_reducible refine (hmyi.out _ hb2).mono ?_; rintro e w' ⟨rfl, rfl⟩) | (go_at_call 208; with_reducible refine (hmye.out _ hb2).mono ?_; rintro e w' ⟨rfl, rfl⟩) | (go_at_call 131; with_reducible refine (hlke.out _ hb3).mono ?_; rintro e w4 ⟨rfl, hb4⟩) | (go_at_call 131; with_reducible refine (hlki.out _ hb2).mono ?_; rintro e w3 ⟨rfl, hb3⟩))
    go_ret
    exact ⟨rfl, hS.out _ hb2⟩
set_option maxRecDepth 100000 in
set_option maxHeartbeats 4000000 in
/-- One of its ways out. -/
theorem rename_may2 (h : FsAt w B p f sv ps) (hf : FineF f) (hcl : Closed f) (dir : Int) (s t : ByteArray) (hs : s.size ≤ maxLen) (ht : t.size ≤ maxLen) {i j e : Nat} {D J E : Ino} {x y : ByteArray} (he : namedM f dir s = ((i : Int) + 1, x, j + 1, 0)) (ha : aheadM f dir t = ((e : Int) + 1, y, 0))
    (hi : f[i]? = some (some D)) (hj : f[j]? = some (some J)) (hE : f[e]? = some (some E)) (hx : lookM D.ents x = j + 1) (hdl : (node f dir).isSome)
    (h1 : (slashed s && !J.isDir) = false) (h2 : (slashed t && !J.isDir) = false) (h3 : E.links ≠ 0) (h4 : D.may 2 = true) (h5 : E.may 2 = false) :
    Calls Tryz.prog 153 #[.pointer (some ⟨p, 0, none⟩), .int .i64 dir, .string s, .string t] w fun r w' => r = .returned (.int .i64 13) ∧ FsP (All B) w w' p f := by
  have hlen : f.length ≤ 100000 := by have := hf.1; omega
  have hS := Lib.hid (fun (w1 : World) (hb : Below w.heap.size w w1) => FsP.of (show FsIs w B p f from ⟨sv, ps, h⟩) hb)
  obtain ⟨q, hq, dv, ev, hA⟩ := h.some_ i D hi
  obtain ⟨q2, hq2, dv2, ev2, hA2⟩ := h.some_ j J hj
  obtain ⟨qe, hqe, dv3, ev3, hA3⟩ := h.some_ e E hE
  have hnm := Lib.hid (named_yes h hf hcl dir s hs he hq2)
  have hdj := Lib.hid (fun (W : World) (hb : Below w.heap.size w W) => isDir_any (hA2.below hb))
  have hah := Lib.hid (fun (W : World) (hb : Below w.heap.size w W) => ((ahead_any (h.below hb) hf hcl dir hdl t ht).mono fun r w' h9 => And.intro (by rw [ha] at h9; exact h9.1) (show Below w.heap.size w w' from hb.trans (below_of h9.2 hb.size))))
  have hcE := Lib.hid (fun (W : World) (hb : Below w.heap.size w W) => show W.cell? ⟨qe, 2, none⟩ = some (.int .i64 E.links) from (hA3.below hb).blk.cell 2)
  have hndi := Lib.hid (fun (W : World) (hb : Below w.heap.size w W) => node_yes (h.below hb) hq hlen)
  have hnde := Lib.hid (fun (W : World) (hb : Below w.heap.size w W) => node_yes (h.below hb) hqe hlen)
  have hmyi := Lib.hid (fun (W : World) (hb : Below w.heap.size w W) => may_any (hA.below hb) 2)
  have hmye := Lib.hid (fun (W : World) (hb : Below w.heap.size w W) => may_any (hA3.below hb) 2)
  have hlki := Lib.hid (fun (W : World) (hb : Below w.heap.size w W) => ((lookup_any (hA.below hb) (hf.2 i D hi) x).mono fun r w' h9 => And.intro h9.1 (show Below w.heap.size w w' from hb.trans (below_of h9.2 hb.size))))
  have hlke := Lib.hid (fun (W : World) (hb : Below w.heap.size w W) => ((lookup_any (hA3.below hb) (hf.2 e E hE) y).mono fun r w' h9 => And.intro h9.1 (show Below w.heap.size w w' from hb.trans (below_of h9.2 hb.size))))
  rw [h4] at hmyi
  rw [h5] at hmye
  have x3 : ((E.links : Int) == 0) = false := beq_eq_false_iff_ne.2 (by omega)
  have hss' := Lib.hid (fun (W : World) => slashed_any s W hs)
  have hst' := Lib.hid (fun (W : World) => slashed_any t W ht)
  obtain ⟨jd, hjd⟩ : ∃ z, J.isDir = z := ⟨_, rfl⟩
  obtain ⟨sa, hsa⟩ : ∃ z, slashed s = z := ⟨_, rfl⟩
  obtain ⟨ta, hta⟩ : ∃ z, slashed t = z := ⟨_, rfl⟩
  rw [hjd] at hdj h1 h2
  rw [hsa] at hss' h1
  rw [hta] at hst' h2
  clear h hf hcl he ha hi hj hE hx hdl hA hA2 hA3 hq hq2 hqe hjd hsa hta h3 h4 h5 hlki hlke
  cases jd <;> cases sa <;> cases ta <;> first | (exfalso; revert h1 h2; decide) | skip
  all_goals
    clear h1 h2
    go_enter Tryz.func153, Tryz.ntmps153
    go_wp2_with (first | (go_at_call 206; refine hnm.out.mono ?_; rintro e w1 ⟨rfl, hb1⟩) | (go_at_call 207; with_reducible refine (hst'.out _).mono ?_; rintro e w' ⟨rfl, rfl⟩) | (go_at_call 207; with_reducible refine (hss'.out _).mono ?_; rintro e w' ⟨rfl, rfl⟩) | (go_at_call 132; refine (hdj.out _ hb2).mono ?_; rintro e w' ⟨rfl, rfl⟩) | (go_at_call 132; refine (hdj.out _ hb1).mono ?_; rintro e w' ⟨rfl, rfl⟩) | (go_at_call 210; refine (hah.out _ hb1).mono ?_; rintro e w2 ⟨rfl, hb2⟩; have cE := hcE.out _ hb2) | (go_at_call 58; with_reducible refine (hndi.out _ hb3).mono ?_; rintro e w' ⟨rfl, rfl⟩) | (go_at_call 58; with_reducible refine (hnde.out _ hb3).mono ?_; rintro e w' ⟨rfl, rfl⟩) | (go_at_call 58; with_reducible refine (hndi.out _ hb2).mono ?_; rintro e w' ⟨rfl, rfl⟩) | (go_at_call 58; with_reducible refine (hnde.out _ hb2).mono ?_; rintro e w' ⟨rfl, rfl⟩) | (go_at_call 208; with_reducible refine (hmyi.out _ hb2).mono ?_; rintro e w' ⟨rfl, rfl⟩) | (go_at_call 208; with_reducible refine (hmye.out _ hb2).mono ?_; rintro e w' ⟨rfl, rfl⟩) | (go_at_call 131; with_reducible refine (hlke.out _ hb3).mono ?_; rintro e w4 ⟨rfl, hb4⟩) | (go_at_call 131; with_reducible refine (hlki.out _ hb2).mono ?_; rintro e w3 ⟨rfl, hb3⟩))
    go_ret
    exact ⟨rfl, hS.out _ hb2⟩
set_option maxRecDepth 100000 in
set_option maxHeartbeats 4000000 in
/-- One of its ways out. -/
theorem rename_gone (h : FsAt w B p f sv ps) (hf : FineF f) (hcl : Closed f) (dir : Int) (s t : ByteArray) (hs : s.size ≤ maxLen) (ht : t.size ≤ maxLen) {i j e : Nat} {D J E : Ino} {x y : ByteArray} (he : namedM f dir s = ((i : Int) + 1, x, j + 1, 0)) (ha : aheadM f dir t = ((e : Int) + 1, y, 0))
    (hi : f[i]? = some (some D)) (hj : f[j]? = some (some J)) (hE : f[e]? = some (some E)) (hx : lookM D.ents x = j + 1) (hdl : (node f dir).isSome)
    (h1 : (slashed s && !J.isDir) = false) (h2 : (slashed t && !J.isDir) = false) (h3 : E.links = 0) :
    Calls Tryz.prog 153 #[.pointer (some ⟨p, 0, none⟩), .int .i64 dir, .string s, .string t] w fun r w' => r = .returned (.int .i64 2) ∧ FsP (All B) w w' p f := by
  have hlen : f.length ≤ 100000 := by have := hf.1; omega
  have hS := Lib.hid (fun (w1 : World) (hb : Below w.heap.size w w1) => FsP.of (show FsIs w B p f from ⟨sv, ps, h⟩) hb)
  obtain ⟨q, hq, dv, ev, hA⟩ := h.some_ i D hi
  obtain ⟨q2, hq2, dv2, ev2, hA2⟩ := h.some_ j J hj
  obtain ⟨qe, hqe, dv3, ev3, hA3⟩ := h.some_ e E hE
  have hnm := Lib.hid (named_yes h hf hcl dir s hs he hq2)
  have hdj := Lib.hid (fun (W : World) (hb : Below w.heap.size w W) => isDir_any (hA2.below hb))
  have hah := Lib.hid (fun (W : World) (hb : Below w.heap.size w W) => ((ahead_any (h.below hb) hf hcl dir hdl t ht).mono fun r w' h9 => And.intro (by rw [ha] at h9; exact h9.1) (show Below w.heap.size w w' from hb.trans (below_of h9.2 hb.size))))
  have hcE := Lib.hid (fun (W : World) (hb : Below w.heap.size w W) => show W.cell? ⟨qe, 2, none⟩ = some (.int .i64 E.links) from (hA3.below hb).blk.cell 2)
  have hndi := Lib.hid (fun (W : World) (hb : Below w.heap.size w W) => node_yes (h.below hb) hq hlen)
  have hnde := Lib.hid (fun (W : World) (hb : Below w.heap.size w W) => node_yes (h.below hb) hqe hlen)
  have hmyi := Lib.hid (fun (W : World) (hb : Below w.heap.size w W) => may_any (hA.below hb) 2)
  have hmye := Lib.hid (fun (W : World) (hb : Below w.heap.size w W) => may_any (hA3.below hb) 2)
  have hlki := Lib.hid (fun (W : World) (hb : Below w.heap.size w W) => ((lookup_any (hA.below hb) (hf.2 i D hi) x).mono fun r w' h9 => And.intro h9.1 (show Below w.heap.size w w' from hb.trans (below_of h9.2 hb.size))))
  have hlke := Lib.hid (fun (W : World) (hb : Below w.heap.size w W) => ((lookup_any (hA3.below hb) (hf.2 e E hE) y).mono fun r w' h9 => And.intro h9.1 (show Below w.heap.size w w' from hb.trans (below_of h9.2 hb.size))))
  rw [h3] at hcE
  have hss' := Lib.hid (fun (W : World) => slashed_any s W hs)
  have hst' := Lib.hid (fun (W : World) => slashed_any t W ht)
  obtain ⟨jd, hjd⟩ : ∃ z, J.isDir = z := ⟨_, rfl⟩
  obtain ⟨sa, hsa⟩ : ∃ z, slashed s = z := ⟨_, rfl⟩
  obtain ⟨ta, hta⟩ : ∃ z, slashed t = z := ⟨_, rfl⟩
  rw [hjd] at hdj h1 h2
  rw [hsa] at hss' h1
  rw [hta] at hst' h2
  clear h hf hcl he ha hi hj hE hx hdl hA hA2 hA3 hq hq2 hqe hjd hsa hta h3 hlki hlke hmyi hmye
  cases jd <;> cases sa <;> cases ta <;> first | (exfalso; revert h1 h2; decide) | skip
  all_goals
    clear h1 h2
    go_enter Tryz.func153, Tryz.ntmps153
    go_wp2_with (first | (go_at_call 206; refine hnm.out.mono ?_; rintro e w1 ⟨rfl, hb1⟩) | (go_at_call 207; with_reducible refine (hst'.out _).mono ?_; rintro e w' ⟨rfl, rfl⟩) | (go_at_call 207; with_reducible refine (hss'.out _).mono ?_; rintro e w' ⟨rfl, rfl⟩) | (go_at_call 132; refine (hdj.out _ hb2).mono ?_; rintro e w' ⟨rfl, rfl⟩) | (go_at_call 132; refine (hdj.out _ hb1).mono ?_; rintro e w' ⟨rfl, rfl⟩) | (go_at_call 210; refine (hah.out _ hb1).mono ?_; rintro e w2 ⟨rfl, hb2⟩; have cE := hcE.out _ hb2) | (go_at_call 58; with_reducible refine (hndi.out _ hb3).mono ?_; rintro e w' ⟨rfl, rfl⟩) | (go_at_call 58; with_reducible refine (hnde.out _ hb3).mono ?_; rintro e w' ⟨rfl, rfl⟩) | (go_at_call 58; with_reducible refine (hndi.out _ hb2).mono ?_; rintro e w' ⟨rfl, rfl⟩) | (go_at_call 58; with_reducible refine (hnde.out _ hb2).mono ?_; rintro e w' ⟨rfl, rfl⟩) | (go_at_call 208; with_reducible refine (hmyi.out _ hb2).mono ?_; rintro e w' ⟨rfl, rfl⟩) | (go_at_call 208; with_reducible refine (hmye.out _ hb2).mono ?_; rintro e w' ⟨rfl, rfl⟩) | (go_at_call 131; with_reducible refine (hlke.out _ hb3).mono ?_; rintro e w4 ⟨rfl, hb4⟩) | (go_at_call 131; with_reducible refine (hlki.out _ hb2).mono ?_; rintro e w3 ⟨rfl, hb3⟩))
    go_ret
    exact ⟨rfl, hS.out _ hb2⟩
end
end Go.Proofs.YtmilagppbepnbaaGreat
/- Rename: the ways out ahead. Condition: the tree lies as stated. -/
namespace Go.Proofs.YtmilagppbepnbaaGreat
open Go.RowKit Go.Shelf Go.PlainAid
attribute [local go_sem] Oper.semAt_some
set_option linter.unusedVariables false
section
variable {w : World} {B : Nat → Nat → Prop} {p : Nat} {f : Fs} {sv : Value} {ps : List (Option Nat)}
set_option maxRecDepth 100000 in
set_option maxHeartbeats 4000000 in
theorem rename_err1 (h : FsAt w B p f sv ps) (hf : FineF f) (hcl : Closed f) (dir : Int) (s t : ByteArray) (hs : s.size ≤ maxLen) (ht : t.size ≤ maxLen) (h0 : (namedM f dir s).2.2.2 ≠ 0) :
    Calls Tryz.prog 153 #[.pointer (some ⟨p, 0, none⟩), .int .i64 dir, .string s, .string t] w fun r w' => r = .returned (.int .i64 (namedM f dir s).2.2.2) ∧ FsP (All B) w w' p f := by
  have hlen : f.length ≤ 100000 := by have := hf.1; omega
  have hS := Lib.hid (fun (w1 : World) (hb : Below w.heap.size w w1) => FsP.of (show FsIs w B p f from ⟨sv, ps, h⟩) hb)
  have hnm := Lib.hid (named_err h hf hcl dir s hs h0)
  obtain ⟨er, her⟩ : ∃ z, (namedM f dir s).2.2.2 = z := ⟨_, rfl⟩
  obtain ⟨a1, ha1⟩ : ∃ z, (namedM f dir s).1 = z := ⟨_, rfl⟩
  obtain ⟨a2, ha2⟩ : ∃ z, (namedM f dir s).2.1 = z := ⟨_, rfl⟩
  rw [her, ha1, ha2] at hnm
  rw [her] at h0 ⊢
  have x0 : ((er : Int) != 0) = true := bne_iff_ne.2 (by omega)
  clear h hf hcl her ha1 ha2 h0
  go_enter Tryz.func153, Tryz.ntmps153
  go_wp2_with (go_at_call 206; refine hnm.out.mono ?_; rintro e w1 ⟨rfl, hb1⟩)
  go_ret
  exact ⟨rfl, hS.out _ hb1⟩
set_option maxRecDepth 100000 in
set_option maxHeartbeats 4000000 in
theorem rename_err2 (h : FsAt w B p f sv ps) (hf : FineF f) (hcl : Closed f) (dir : Int) (s t : ByteArray) (hs : s.size ≤ maxLen) (ht : t.size ≤ maxLen) {i j : Nat} {D J : Ino} {x : ByteArray} (he : namedM f dir s = ((i : Int) + 1, x, j + 1, 0)) (hj : f[j]? = some (some J)) (h1 : (slashed s && !J.isDir) = true) :
    Calls Tryz.prog 153 #[.pointer (some ⟨p, 0, none⟩), .int .i64 dir, .string s, .string t] w fun r w' => r = .returned (.int .i64 20) ∧ FsP (All B) w w' p f := by
  have hlen : f.length ≤ 100000 := by have := hf.1; omega
  have hS := Lib.hid (fun (w1 : World) (hb : Below w.heap.size w w1) => FsP.of (show FsIs w B p f from ⟨sv, ps, h⟩) hb)
  obtain ⟨q2, hq2, dv2, ev2, hA2⟩ := h.some_ j J hj
  have hnm := Lib.hid (named_yes h hf hcl dir s hs he hq2)
  have hdj := Lib.hid (fun (W : World) (hb : Below w.heap.size w W) => isDir_any (hA2.below hb))
  have hss' := Lib.hid (fun (W : World) => slashed_any s W hs)
  obtain ⟨e1, e2⟩ : slashed s = true ∧ J.isDir = false := by simpa using h1
  rw [e1] at hss'
  rw [e2] at hdj
  clear h hf hcl he hj hq2 hA2 h1 e1 e2
  go_enter Tryz.func153, Tryz.ntmps153
  go_wp2_with (first | (go_at_call 206; refine hnm.out.mono ?_; rintro e w1 ⟨rfl, hb1⟩) | (go_at_call 207; with_reducible refine (hss'.out _).mono ?_; rintro e w' ⟨rfl, rfl⟩) | (go_at_call 132; refine (hdj.out _ hb1).mono ?_; rintro e w' ⟨rfl, rfl⟩))
  go_ret
  exact ⟨rfl, hS.out _ hb1⟩
set_option maxRecDepth 100000 in
set_option maxHeartbeats 4000000 in
theorem rename_err3 (h : FsAt w B p f sv ps) (hf : FineF f) (hcl : Closed f) (dir : Int) (s t : ByteArray) (hs : s.size ≤ maxLen) (ht : t.size ≤ maxLen) {i j : Nat} {D J : Ino} {x : ByteArray} (he : namedM f dir s = ((i : Int) + 1, x, j + 1, 0)) (hj : f[j]? = some (some J)) (hdl : (node f dir).isSome) {a1 : Int} {y : ByteArray} {er : Nat} (ha : aheadM f dir t = (a1, y, er)) (h1 : (slashed s && !J.isDir) = false) (h2 : er ≠ 0) :
    Calls Tryz.prog 153 #[.pointer (some ⟨p, 0, none⟩), .int .i64 dir, .string s, .string t] w fun r w' => r = .returned (.int .i64 er) ∧ FsP (All B) w w' p f := by
  have hlen : f.length ≤ 100000 := by have := hf.1; omega
  have hS := Lib.hid (fun (w1 : World) (hb : Below w.heap.size w w1) => FsP.of (show FsIs w B p f from ⟨sv, ps, h⟩) hb)
  obtain ⟨q2, hq2, dv2, ev2, hA2⟩ := h.some_ j J hj
  have hnm := Lib.hid (named_yes h hf hcl dir s hs he hq2)
  have hdj := Lib.hid (fun (W : World) (hb : Below w.heap.size w W) => isDir_any (hA2.below hb))
  have hah := Lib.hid (fun (W : World) (hb : Below w.heap.size w W) => ((ahead_any (h.below hb) hf hcl dir hdl t ht).mono fun r w' h9 => And.intro (by rw [ha] at h9; exact h9.1) (show Below w.heap.size w w' from hb.trans (below_of h9.2 hb.size))))
  have hss' := Lib.hid (fun (W : World) => slashed_any s W hs)
  obtain ⟨jd, hjd⟩ : ∃ z, J.isDir = z := ⟨_, rfl⟩
  obtain ⟨sa, hsa⟩ : ∃ z, slashed s = z := ⟨_, rfl⟩
  rw [hjd] at hdj h1
  rw [hsa] at hss' h1
  have x0 : ((er : Int) != 0) = true := bne_iff_ne.2 (by omega)
  clear h hf hcl he hj hq2 hA2 hjd hsa ha h2
  cases jd <;> cases sa <;> first | (exfalso; revert h1; decide) | skip
  all_goals
    clear h1
    go_enter Tryz.func153, Tryz.ntmps153
    go_wp2_with (first | (go_at_call 206; refine hnm.out.mono ?_; rintro e w1 ⟨rfl, hb1⟩) | (go_at_call 207; with_reducible refine (hss'.out _).mono ?_; rintro e w' ⟨rfl, rfl⟩) | (go_at_call 132; refine (hdj.out _ hb1).mono ?_; rintro e w' ⟨rfl, rfl⟩) | (go_at_call 210; refine (hah.out _ hb1).mono ?_; rintro e w2 ⟨rfl, hb2⟩))
    go_ret
    exact ⟨rfl, hS.out _ hb2⟩
set_option maxRecDepth 100000 in
set_option maxHeartbeats 4000000 in
theorem rename_err4 (h : FsAt w B p f sv ps) (hf : FineF f) (hcl : Closed f) (dir : Int) (s t : ByteArray) (hs : s.size ≤ maxLen) (ht : t.size ≤ maxLen) {i j : Nat} {D J : Ino} {x : ByteArray} (he : namedM f dir s = ((i : Int) + 1, x, j + 1, 0)) (hj : f[j]? = some (some J)) (hdl : (node f dir).isSome) {a1 : Int} {y : ByteArray} (ha : aheadM f dir t = (a1, y, 0)) (h1 : (slashed s && !J.isDir) = false) (h2 : (slashed t && !J.isDir) = true) :
    Calls Tryz.prog 153 #[.pointer (some ⟨p, 0, none⟩), .int .i64 dir, .string s, .string t] w fun r w' => r = .returned (.int .i64 20) ∧ FsP (All B) w w' p f := by
  have hlen : f.length ≤ 100000 := by have := hf.1; omega
  have hS := Lib.hid (fun (w1 : World) (hb : Below w.heap.size w w1) => FsP.of (show FsIs w B p f from ⟨sv, ps, h⟩) hb)
  obtain ⟨q2, hq2, dv2, ev2, hA2⟩ := h.some_ j J hj
  have hnm := Lib.hid (named_yes h hf hcl dir s hs he hq2)
  have hdj := Lib.hid (fun (W : World) (hb : Below w.heap.size w W) => isDir_any (hA2.below hb))
  have hah := Lib.hid (fun (W : World) (hb : Below w.heap.size w W) => ((ahead_any (h.below hb) hf hcl dir hdl t ht).mono fun r w' h9 => And.intro (by rw [ha] at h9; exact h9.1) (show Below w.heap.size w w' from hb.trans (below_of h9.2 hb.size))))
  have hss' := Lib.hid (fun (W : World) => slashed_any s W hs)
  have hst' := Lib.hid (fun (W : World) => slashed_any t W ht)
  obtain ⟨e1, e2⟩ : slashed t = true ∧ J.isDir = false := by simpa using h2
  rw [e2] at hdj h1
  rw [e1] at hst'
  obtain ⟨sa, hsa⟩ : ∃ z, slashed s = z := ⟨_, rfl⟩
  rw [hsa] at hss' h1
  clear h hf hcl he hj hq2 hA2 hsa ha h2 e1 e2
  cases sa <;> first | (exfalso; revert h1; decide) | skip
  all_goals
    clear h1
    go_enter Tryz.func153, Tryz.ntmps153
    go_wp2_with (first | (go_at_call 206; refine hnm.out.mono ?_; rintro e w1 ⟨rfl, hb1⟩) | (go_at_call 207; with_reducible refine (hst'.out _).mono ?_; rintro e w' ⟨rfl, rfl⟩) | (go_at_call 207; with_reducible refine (hss'.out _).mono ?_; rintro e w' ⟨rfl, rfl⟩) | (go_at_call 132; refine (hdj.out _ hb2).mono ?_; rintro e w' ⟨rfl, rfl⟩) | (go_at_call 132; refine (hdj.out _ hb1).mono ?_; rintro e w' ⟨rfl, rfl⟩) | (go_at_call 210; refine (hah.out _ hb1).mono ?_; rintro e w2 ⟨rfl, hb2⟩))
    go_ret
    exact ⟨rfl, hS.out _ hb2⟩
end
end Go.Proofs.YtmilagppbepnbaaGreat
