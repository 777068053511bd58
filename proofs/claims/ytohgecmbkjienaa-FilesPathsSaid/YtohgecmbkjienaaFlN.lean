/- release, New, unlink, mayAdd. Condition: the tree lies as stated. -/
import Derived.Test.YtohgecmbkjienaaFlL
namespace Go.Proofs.Ytohgecmbkjienaa
open Go.RowKit Go.PlainAid
attribute [local go_sem] Oper.semAt_some

/-- All inodes are of a size. -/
def FineF (f : Fs) : Prop := f.length ≤ 10000 ∧ ∀ (i : Nat) I, f[i]? = some (some I) → Fine I
section
variable {w : World} {B : Nat → Nat → Prop} {p : Nat} {f : Fs} {sv : Value} {ps : List (Option Nat)}
theorem FsAt.same (h : FsAt w B p f sv ps) : FsP (All B) w w p f := FsP.of ⟨sv, ps, h⟩ (Below.refl _ _)
theorem relM_at {i : Nat} {I : Ino} (hi : f[i]? = some (some I)) : relM f (i + 1) = if I.links = 0 ∧ I.holds = 0 then f.set i none else f := by
  unfold relM
  rw [show ((i + 1 : Nat) : Int) = (i : Int) + 1 by omega, node_at hi]
  rfl
set_option maxHeartbeats 1000000 in
theorem release_any (h : FsAt w B p f sv ps) {i : Nat} {I : Ino} (hi : f[i]? = some (some I)) (hlen : f.length ≤ 100000) : Calls Try.prog 47 #[.pointer (some ⟨p, 0, none⟩), .int .i64 ((i : Int) + 1)] w fun e w' => e = .returned (.tuple #[]) ∧ FsP (All B) w w' p (relM f (i + 1)) := by
  obtain ⟨q, hq, dv, ev, hI⟩ := h.some_ i I hi
  have hn := Lib.hid (node_yes h hq hlen)
  have hc := Lib.hid (cut_any h (List.getElem?_eq_some_iff.1 hi).1 hlen)
  have hr := Lib.hid (relM_at hi)
  have hH := Lib.hid h
  have c0 : w.cell? ⟨p, 0, none⟩ = some sv := h.blk.cell 0
  have c2 : w.cell? ⟨q, 2, none⟩ = some (.int .i64 I.links) := hI.blk.cell 2
  have c3 : w.cell? ⟨q, 3, none⟩ = some (.int .i64 I.holds) := hI.blk.cell 3
  rw [hr.out]
  clear h hi hq hI
  by_cases h1 : I.links = 0
  · by_cases h2 : I.holds = 0
    · rw [if_pos ⟨h1, h2⟩]
      rw [h1] at c2
      rw [h2] at c3
      go_enter Try.func47, Try.ntmps47
      go_wp2_with (first | (go_at_call 38; refine hn.out.mono ?_; rintro e w' ⟨rfl, rfl⟩) | (go_at_call 68; refine hc.out.mono ?_; rintro e w' ⟨rfl, hP⟩))
      go_end0
      exact ⟨rfl, hP⟩
    · rw [if_neg (fun h => h2 h.2)]
      rw [h1] at c2
      have e2 : ((I.holds : Int) == 0) = false := beq_eq_false_iff_ne.2 (by omega)
      go_enter Try.func47, Try.ntmps47
      go_wp2_with (go_at_call 38; refine hn.out.mono ?_; rintro e w' ⟨rfl, rfl⟩)
      go_end0
      exact ⟨rfl, hH.out.same⟩
  · rw [if_neg (fun h => h1 h.1)]
    have e2 : ((I.links : Int) == 0) = false := beq_eq_false_iff_ne.2 (by omega)
    go_enter Try.func47, Try.ntmps47
    go_wp2_with (go_at_call 38; refine hn.out.mono ?_; rintro e w' ⟨rfl, rfl⟩)
    go_end0
    exact ⟨rfl, hH.out.same⟩
theorem fs_empty (w : World) : FsAt (w.alloc (.cells #[.slice none 0 0] 68)) (fun i g => i = 0 ∧ g = w.heap.size) w.heap.size [] (.slice none 0 0) [] :=
  ⟨Blk.new _ _ _, World.ownsRow_nil _ _ _ _, rfl, ⟨rfl, rfl⟩, fun g h => by simp [Value.ownBlock] at h, fun i I h => by simp at h, fun i h => by simp at h, fun i j g h1 h2 => by omega, fun i g h => by rw [h.2]; simp⟩
theorem new_any (w : World) : Calls Try.prog 10 #[] w fun e w' => e = .returned (.pointer (some ⟨w.heap.size, 0, none⟩)) ∧ FsP (fun _ => False) w w' w.heap.size newM := by
  have h0 := fs_empty w
  have hp := Lib.hid (put_any h0 ⟨2, 493, 1, 0, [], [], 1⟩ rfl rfl (by decide))
  have c0 : (w.alloc (.cells #[.slice none 0 0] 68)).cell? ⟨w.heap.size, 0, none⟩ = some (.slice none 0 0) := h0.blk.cell 0
  clear h0
  go_enter Try.func10, Try.ntmps10
  go_wp2_with (go_at_call 32; refine hp.out.mono ?_; rintro e w' ⟨rfl, hP⟩)
  go_ret
  refine ⟨rfl, ?_⟩
  obtain ⟨B', h1, h2, h3⟩ := hP
  refine ⟨B', h1, fun g hg => .inr ?_, ?_⟩
  · rcases h2 g hg with ⟨i, h4⟩ | h4
    · omega
    · rw [World.size_alloc] at h4; omega
  · refine ⟨h3.os, h3.tape, h3.output, Nat.le_trans (by simp) h3.size, fun g hg _ => ?_⟩
    exact (h3.block g (by rw [World.size_alloc]; omega) (fun ⟨i, h4⟩ => by omega)).trans (Below.heap_alloc _ _ _ hg)
theorem mayAdd_any (h : FsAt w B p f sv ps) {n : Int} {I : Ino} (hn : node f n = some I) (hf : FineF f) (x : ByteArray) : Calls Try.prog 60 #[.pointer (some ⟨p, 0, none⟩), .int .i64 n, .string x] w fun e w' => e = .returned (.int .i64 (mayAddM f n x : Nat)) ∧ Below w.heap.size w w' := by
  obtain ⟨i, q, rfl, hil, hi, hq, dv, ev, hI⟩ := node_where h hn
  have hno := Lib.hid (node_yes h hq (by have := hf.1; omega))
  have hlo := Lib.hid (lookup_any hI (hf.2 i I hi) x)
  have hma := Lib.hid (fun (w1 : World) (hb : Below w.heap.size w w1) => may_any (hI.below hb) 2)
  have hql := hI.lt q hI.sq
  have c2 : w.cell? ⟨q, 2, none⟩ = some (.int .i64 I.links) := hI.blk.cell 2
  have c2H := Lib.hid c2
  have hM : Hid (mayAddM f ((i : Int) + 1) x = if lookM I.ents x ≠ 0 then 17 else if I.links = 0 then 2 else if I.may 2 then 0 else 13) := Lib.hid (by unfold mayAddM; rw [hn])
  rw [hM.out]
  clear h hn hi hq hI hf c2
  by_cases h1 : lookM I.ents x = 0
  · rw [if_neg (fun h => h h1)]
    rw [h1] at hlo
    by_cases h2 : I.links = 0
    · rw [if_pos h2]
      rw [h2] at c2H
      go_enter Try.func60, Try.ntmps60
      go_wp2_with (first | (go_at_call 38; refine hno.out.mono ?_; rintro e w' ⟨rfl, rfl⟩) | (go_at_call 55; refine hlo.out.mono ?_; rintro e w1 ⟨rfl, hb⟩; have d2 : w1.cell? ⟨q, 2, none⟩ = _ := (hb.cell hql).trans c2H.out))
      go_ret
      exact ⟨rfl, hb⟩
    · rw [if_neg h2]
      have e2 : ((I.links : Int) == 0) = false := beq_eq_false_iff_ne.2 (by omega)
      cases h3 : I.may 2 with
      | true =>
        rw [if_pos rfl]
        have h3H := Lib.hid h3
        clear h3
        go_enter Try.func60, Try.ntmps60
        go_wp2_with (first | (go_at_call 38; refine hno.out.mono ?_; rintro e w' ⟨rfl, rfl⟩) | (go_at_call 55; refine hlo.out.mono ?_; rintro e w1 ⟨rfl, hb⟩; have d2 : w1.cell? ⟨q, 2, none⟩ = _ := (hb.cell hql).trans c2H.out) | (go_at_call 48; refine (hma.out _ hb).mono ?_; rintro e w' ⟨rfl, rfl⟩; rw [h3H.out]))
        go_ret
        exact ⟨rfl, hb⟩
      | false =>
        rw [if_neg (by decide)]
        have h3H := Lib.hid h3
        clear h3
        go_enter Try.func60, Try.ntmps60
        go_wp2_with (first | (go_at_call 38; refine hno.out.mono ?_; rintro e w' ⟨rfl, rfl⟩) | (go_at_call 55; refine hlo.out.mono ?_; rintro e w1 ⟨rfl, hb⟩; have d2 : w1.cell? ⟨q, 2, none⟩ = _ := (hb.cell hql).trans c2H.out) | (go_at_call 48; refine (hma.out _ hb).mono ?_; rintro e w' ⟨rfl, rfl⟩; rw [h3H.out]))
        go_ret
        exact ⟨rfl, hb⟩
  · rw [if_pos h1]
    have e2 : ((lookM I.ents x : Int) != 0) = true := by simp; omega
    go_enter Try.func60, Try.ntmps60
    go_wp2_with (first | (go_at_call 38; refine hno.out.mono ?_; rintro e w' ⟨rfl, rfl⟩) | (go_at_call 55; refine hlo.out.mono ?_; rintro e w1 ⟨rfl, hb⟩))
    go_ret
    exact ⟨rfl, hb⟩
end
end Go.Proofs.Ytohgecmbkjienaa
