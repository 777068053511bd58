/- unlink. Condition: the tree lies as stated. -/
import Derived.Test.YtohgecmbkjienaaFlAQ
namespace Go.Proofs.Ytohgecmbkjienaa
open Go.RowKit Go.Shelf Go.PlainAid
attribute [local go_sem] Oper.semAt_some
section
variable {w : World} {B : Nat → Nat → Prop} {p : Nat} {f : Fs} {sv : Value} {ps : List (Option Nat)}
/-- One link less; let go. -/
theorem less_any (h : FsAt w B p f sv ps) {j : Nat} {J : Ino} (hj : f[j]? = some (some J)) (hlen : f.length ≤ 100000) : ∃ q, Calls Try.prog 38 #[.pointer (some ⟨p, 0, none⟩), .int .i64 ((j : Int) + 1)] w (fun e w' => e = .returned (.pointer (some ⟨q, 0, none⟩)) ∧ w' = w) ∧
    w.cell? ⟨q, 2, none⟩ = some (.int .i64 J.links) ∧ w.frozen? ⟨q, 2, none⟩ = false ∧
    ∀ v, ((J.links - 1 : Nat) : Int) = v → Calls Try.prog 47 #[.pointer (some ⟨p, 0, none⟩), .int .i64 ((j : Int) + 1)] (w.setCell ⟨q, 2, none⟩ (.int .i64 v)) fun e w' => e = .returned (.tuple #[]) ∧ FsP (All B) w w' p (relM (setLinks f (j + 1) (· - 1)) (j + 1)) := by
  obtain ⟨q, hq, dv, ev, hA⟩ := h.some_ j J hj
  have hjl := (List.getElem?_eq_some_iff.1 hj).1
  refine ⟨q, node_yes h hq hlen, hA.blk.cell 2, hA.blk.frozen 2, fun v hv => ?_⟩
  subst hv
  rw [setLinks_at hj]
  obtain ⟨B1, ⟨sv1, ps1, h1⟩, k2, k3⟩ := h.turnP hjl hq (hA.field (Below.refl _ _) 2 (.int .i64 ((J.links - 1 : Nat) : Int)) { J with links := J.links - 1 } rfl rfl rfl)
  exact (release_any h1 (List.getElem?_set_self hjl) (by rw [List.length_set]; exact hlen)).mono fun e w' h9 => ⟨h9.1, FsP.join k2 k3 h9.2⟩
set_option maxHeartbeats 1000000 in
theorem unlink_any (h : FsAt w B p f sv ps) (hf : FineF f) {i j : Nat} {D J : Ino} (hi : f[i]? = some (some D)) (hj : f[j]? = some (some J)) (x : ByteArray) (hx : lookM D.ents x = j + 1) (hJ : 1 ≤ J.links) :
    Calls Try.prog 57 #[.pointer (some ⟨p, 0, none⟩), .int .i64 ((i : Int) + 1), .string x] w fun e w' => e = .returned (.tuple #[]) ∧ FsP (All B) w w' p (unlinkM f (i + 1) x) := by
  have hlen : f.length ≤ 100000 := by have := hf.1; omega
  obtain ⟨q, hq, dv, ev, hA⟩ := h.some_ i D hi
  have hil := (List.getElem?_eq_some_iff.1 hi).1
  have hjl := (List.getElem?_eq_some_iff.1 hj).1
  have hll := (hf.2 j J hj).ll
  have hM : unlinkM f (i + 1) x = relM (setLinks (setEnts f (i + 1) (fun l => remM l x)) (j + 1) (· - 1)) (j + 1) := by
    unfold unlinkM
    rw [show ((i + 1 : Nat) : Int) = (i : Int) + 1 by omega, node_at hi]
    dsimp only
    rw [hx]
  rw [hM]
  have hf1 : setEnts f (i + 1) (fun l => remM l x) = f.set i (some { D with ents := remM D.ents x }) := setEnts_at hi _
  obtain ⟨J1, hJ1, hJl⟩ : ∃ J1, (setEnts f (i + 1) (fun l => remM l x))[j]? = some (some J1) ∧ J1.links = J.links := by
    rw [hf1]
    by_cases e : i = j
    · subst e
      rw [List.getElem?_set_self hil]
      exact ⟨_, rfl, by rw [hi] at hj; cases hj; rfl⟩
    · exact ⟨J, by rw [List.getElem?_set_ne e]; exact hj, rfl⟩
  have hnd := Lib.hid (fun (W : World) (hb : Below w.heap.size w W) => node_yes (h.below hb) hq hlen)
  have hlk := Lib.hid (lookup_any hA (hf.2 i D hi) x)
  rw [hx] at hlk
  have hrm := Lib.hid (fun (W : World) (hb : Below w.heap.size w W) => (remove_any (hA.below hb) (hf.2 i D hi) x).mono fun e w2 h9 => And.intro h9.1 (show ∃ q2, Calls Try.prog 38 #[.pointer (some ⟨p, 0, none⟩), .int .i64 ((j : Int) + 1)] w2 (fun e w' => e = .returned (.pointer (some ⟨q2, 0, none⟩)) ∧ w' = w2) ∧
      w2.cell? ⟨q2, 2, none⟩ = some (.int .i64 J.links) ∧ w2.frozen? ⟨q2, 2, none⟩ = false ∧
      Calls Try.prog 47 #[.pointer (some ⟨p, 0, none⟩), .int .i64 ((j : Int) + 1)] (w2.setCell ⟨q2, 2, none⟩ (.int .i64 ((J.links : Int) - 1))) fun e w' => e = .returned (.tuple #[]) ∧ FsP (All B) w w' p (relM (setLinks (setEnts f (i + 1) (fun l => remM l x)) (j + 1) (· - 1)) (j + 1)) by
    have h10 := h.turnP hil hq (h9.2.below hb)
    rw [← hf1] at h10
    obtain ⟨B1, ⟨sv1, ps1, h1⟩, k2, k3⟩ := h10
    obtain ⟨q2, e1, e2, e3, e4⟩ := less_any h1 hJ1 (by rw [hf1, List.length_set]; exact hlen)
    rw [hJl] at e2 e4
    exact ⟨q2, e1, e2, e3, (e4 _ (by omega)).mono fun e w' h11 => ⟨h11.1, FsP.join k2 k3 h11.2⟩⟩))
  have hbr := Lib.hid (Below.refl w.heap.size w)
  clear h hf hi hj hx hA hq hM hf1 hJ1
  go_enter Try.func57, Try.ntmps57
  go_wp2_with (first | (go_at_call 38; refine hn2.mono ?_; rintro e w' ⟨rfl, rfl⟩) | (go_at_call 38; refine (hnd.out _ hb1).mono ?_; rintro e w' ⟨rfl, rfl⟩) | (go_at_call 38; refine (hnd.out _ hbr.out).mono ?_; rintro e w' ⟨rfl, rfl⟩) | (go_at_call 55; refine hlk.out.mono ?_; rintro e w1 ⟨rfl, hb1⟩) | (go_at_call 58; refine (hrm.out _ hb1).mono ?_; rintro e w2 ⟨rfl, q2, hn2, c2, g2, hrel⟩) | (go_at_call 47; refine hrel.mono ?_; rintro e w3 ⟨rfl, hP3⟩))
  go_end0
  exact ⟨rfl, hP3⟩
end
end Go.Proofs.Ytohgecmbkjienaa
