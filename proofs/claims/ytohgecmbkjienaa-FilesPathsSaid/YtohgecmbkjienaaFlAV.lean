/- mayReplace. Condition: the tree lies as stated; the parents lead to the root. -/
import Derived.Test.YtohgecmbkjienaaFlAU
namespace Go.Proofs.Ytohgecmbkjienaa
open Go.RowKit Go.Shelf Go.PlainAid
attribute [local go_sem] Oper.semAt_some
def fullM (f : Fs) (n : Nat) : Bool := match node f (n : Int) with
  | none => false
  | some I => decide (0 < I.ents.length)
def mayReplaceM (f : Fs) (d a old t : Nat) : Nat :=
  if old = 0 then (if isDir f a = true then (if holdsM f d a t = true then 22 else 0) else 0)
  else if isDir f a = true then (if isDir f old = true then (if holdsM f d a t = true then 22 else if fullM f old = true then 39 else 0) else 20)
  else if isDir f old = true then 21 else if fullM f old = true then 39 else 0
section
variable {w : World} {B : Nat → Nat → Prop} {p : Nat} {f : Fs} {sv : Value} {ps : List (Option Nat)}
set_option maxHeartbeats 1000000 in
theorem mayReplace_any (h : FsAt w B p f sv ps) (hf : FineF f) (a old t d : Nat) (hd : Deep f d t) (ho : old ≠ 0 → (node f (old : Int)).isSome) : Calls Try.prog 56 #[.pointer (some ⟨p, 0, none⟩), .int .i64 a, .int .i64 old, .int .i64 t] w fun e w' => e = .returned (.int .i64 (mayReplaceM f d a old t : Nat)) ∧ w' = w := by
  have hlen : f.length ≤ 100000 := by have := hf.1; omega
  have hdi := Lib.hid (isDir_fs h (a : Int) hlen)
  have hdo := Lib.hid (isDir_fs h (old : Int) hlen)
  have hho := Lib.hid (holds_any h hf a t d hd)
  unfold mayReplaceM
  by_cases h0 : old = 0
  · subst h0
    rw [if_pos rfl]
    clear h hf hd ho hdo
    cases hda : isDir f (a : Int) with
    | true =>
      rw [hda] at hdi
      rw [if_pos rfl]
      cases hh : holdsM f d a t with
      | true =>
        rw [hh] at hho
        rw [if_pos rfl]
        clear hda hh
        go_enter Try.func56, Try.ntmps56
        go_wp2_with (first | (go_at_call 40; with_reducible refine hdi.out.mono ?_; rintro e w' ⟨rfl, rfl⟩) | (go_at_call 70; refine hho.out.mono ?_; rintro e w' ⟨rfl, rfl⟩))
        go_ret
        exact ⟨rfl, rfl⟩
      | false =>
        rw [hh] at hho
        rw [if_neg (by decide)]
        clear hda hh
        go_enter Try.func56, Try.ntmps56
        go_wp2_with (first | (go_at_call 40; with_reducible refine hdi.out.mono ?_; rintro e w' ⟨rfl, rfl⟩) | (go_at_call 70; refine hho.out.mono ?_; rintro e w' ⟨rfl, rfl⟩))
        go_ret
        exact ⟨rfl, rfl⟩
    | false =>
      rw [hda] at hdi
      rw [if_neg (by decide)]
      clear hda
      go_enter Try.func56, Try.ntmps56
      go_wp2_with (first | (go_at_call 40; with_reducible refine hdi.out.mono ?_; rintro e w' ⟨rfl, rfl⟩))
      go_ret
      exact ⟨rfl, rfl⟩
  · rw [if_neg h0]
    have x1 : ((old : Int) != 0) = true := bne_iff_ne.2 (by omega)
    obtain ⟨I, hI⟩ := Option.isSome_iff_exists.1 (ho h0)
    obtain ⟨i, q, hk, _, _, hq, dv, ev, hA⟩ := node_where h hI
    have hnd := Lib.hid (node_yes h hq hlen)
    rw [← hk] at hnd
    obtain ⟨a5, c5, rfl⟩ := ownsRow_slice hA.ent
    obtain ⟨m, hm⟩ : ∃ m, I.ents.length = m := ⟨_, rfl⟩
    have k5 : w.cell? ⟨q, 5, none⟩ = some (.slice a5 m c5) := by rw [← hm]; exact hA.blk.cell 5
    have hfu : fullM f old = decide (0 < m) := by unfold fullM; rw [hI, ← hm]
    rw [hfu]
    clear h hf hd ho hI hk hq hA hm hfu
    cases hda : isDir f (a : Int) with
    | true =>
      rw [hda] at hdi
      rw [if_pos rfl]
      cases hdb : isDir f (old : Int) with
      | true =>
        rw [hdb] at hdo
        rw [if_pos rfl]
        cases hh : holdsM f d a t with
        | true =>
          rw [hh] at hho
          rw [if_pos rfl]
          clear hda hdb hh
          go_enter Try.func56, Try.ntmps56
          go_wp2_with (first | (go_at_call 40; with_reducible refine hdi.out.mono ?_; rintro e w' ⟨rfl, rfl⟩) | (go_at_call 40; with_reducible refine hdo.out.mono ?_; rintro e w' ⟨rfl, rfl⟩) | (go_at_call 70; refine hho.out.mono ?_; rintro e w' ⟨rfl, rfl⟩))
          go_ret
          exact ⟨rfl, rfl⟩
        | false =>
          rw [hh] at hho
          rw [if_neg (by decide)]
          clear hda hdb hh
          by_cases h5 : 0 < m
          · rw [if_pos (decide_eq_true h5)]
            go_enter Try.func56, Try.ntmps56
            go_wp2_with (first | (go_at_call 40; with_reducible refine hdi.out.mono ?_; rintro e w' ⟨rfl, rfl⟩) | (go_at_call 40; with_reducible refine hdo.out.mono ?_; rintro e w' ⟨rfl, rfl⟩) | (go_at_call 70; refine hho.out.mono ?_; rintro e w' ⟨rfl, rfl⟩) | (go_at_call 38; refine hnd.out.mono ?_; rintro e w' ⟨rfl, rfl⟩))
            go_ret
            exact ⟨rfl, rfl⟩
          · rw [if_neg (by simpa using h5)]
            go_enter Try.func56, Try.ntmps56
            go_wp2_with (first | (go_at_call 40; with_reducible refine hdi.out.mono ?_; rintro e w' ⟨rfl, rfl⟩) | (go_at_call 40; with_reducible refine hdo.out.mono ?_; rintro e w' ⟨rfl, rfl⟩) | (go_at_call 70; refine hho.out.mono ?_; rintro e w' ⟨rfl, rfl⟩) | (go_at_call 38; refine hnd.out.mono ?_; rintro e w' ⟨rfl, rfl⟩))
            go_ret
            exact ⟨rfl, rfl⟩
      | false =>
        rw [hdb] at hdo
        rw [if_neg (by decide)]
        clear hda hdb
        go_enter Try.func56, Try.ntmps56
        go_wp2_with (first | (go_at_call 40; with_reducible refine hdi.out.mono ?_; rintro e w' ⟨rfl, rfl⟩) | (go_at_call 40; with_reducible refine hdo.out.mono ?_; rintro e w' ⟨rfl, rfl⟩))
        go_ret
        exact ⟨rfl, rfl⟩
    | false =>
      rw [hda] at hdi
      rw [if_neg (by decide)]
      cases hdb : isDir f (old : Int) with
      | true =>
        rw [hdb] at hdo
        rw [if_pos rfl]
        clear hda hdb
        go_enter Try.func56, Try.ntmps56
        go_wp2_with (first | (go_at_call 40; with_reducible refine hdi.out.mono ?_; rintro e w' ⟨rfl, rfl⟩) | (go_at_call 40; with_reducible refine hdo.out.mono ?_; rintro e w' ⟨rfl, rfl⟩))
        go_ret
        exact ⟨rfl, rfl⟩
      | false =>
        rw [hdb] at hdo
        rw [if_neg (by decide)]
        clear hda hdb
        by_cases h5 : 0 < m
        · rw [if_pos (decide_eq_true h5)]
          go_enter Try.func56, Try.ntmps56
          go_wp2_with (first | (go_at_call 40; with_reducible refine hdi.out.mono ?_; rintro e w' ⟨rfl, rfl⟩) | (go_at_call 40; with_reducible refine hdo.out.mono ?_; rintro e w' ⟨rfl, rfl⟩) | (go_at_call 38; refine hnd.out.mono ?_; rintro e w' ⟨rfl, rfl⟩))
          go_ret
          exact ⟨rfl, rfl⟩
        · rw [if_neg (by simpa using h5)]
          go_enter Try.func56, Try.ntmps56
          go_wp2_with (first | (go_at_call 40; with_reducible refine hdi.out.mono ?_; rintro e w' ⟨rfl, rfl⟩) | (go_at_call 40; with_reducible refine hdo.out.mono ?_; rintro e w' ⟨rfl, rfl⟩) | (go_at_call 38; refine hnd.out.mono ?_; rintro e w' ⟨rfl, rfl⟩))
          go_ret
          exact ⟨rfl, rfl⟩
end
end Go.Proofs.Ytohgecmbkjienaa
