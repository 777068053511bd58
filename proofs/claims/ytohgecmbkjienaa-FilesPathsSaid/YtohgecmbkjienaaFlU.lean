/- One step of a way. Condition: the tree lies as stated. -/
import Derived.Test.YtohgecmbkjienaaFlT
namespace Go.Proofs.Ytohgecmbkjienaa
open Go.RowKit Go.Shelf Go.PlainAid
attribute [local go_sem] Oper.semAt_some

theorem str_eq {a b : ByteArray} : (a.toList == b.toList) = decide (a = b) := by
  by_cases h : a = b
  · subst h; simp
  · rw [decide_eq_false h]
    rw [← Bool.not_eq_true]
    intro e
    exact h (toList_inj (eq_of_beq e))
theorem str_dot {x : ByteArray} (h : x ≠ dotT) : (x.toList == [46]) = false := by
  have h1 : (x.toList == dotT.toList) = false := by rw [str_eq]; exact decide_eq_false h
  rw [Lib.toList_data dotT] at h1
  exact h1
theorem str_dots {x : ByteArray} (h : x ≠ dotsT) : (x.toList == [46, 46]) = false := by
  have h1 : (x.toList == dotsT.toList) = false := by rw [str_eq]; exact decide_eq_false h
  rw [Lib.toList_data dotsT] at h1
  exact h1
section
variable {w : World} {B : Nat → Nat → Prop} {p : Nat} {f : Fs} {sv : Value} {ps : List (Option Nat)}
theorem step_any (h : FsAt w B p f sv ps) {n : Int} {I : Ino} (hn : node f n = some I) (hf : FineF f) (x : ByteArray) : Calls Try.prog 65 #[.pointer (some ⟨p, 0, none⟩), .int .i64 n, .string x] w fun e w' => e = .returned (.tuple #[.int .i64 (stepM f n x).1, .int .i64 (stepM f n x).2]) ∧ Below w.heap.size w w' := by
  have hlen : f.length ≤ 100000 := by have := hf.1; omega
  have he := Lib.hid (enter_any h hn hlen)
  have hM : Hid (stepM f n x = if enterM f n ≠ 0 then (0, enterM f n) else if x = dotT then (if n = 0 then (0, 2) else (n, 0)) else if x = dotsT then (if 0 < I.links ∧ I.parent ≠ 0 then ((I.parent : Int), 0) else (0, 2)) else if 32 < x.size then (0, 36) else if lookM I.ents x = 0 then (0, 2) else ((lookM I.ents x : Int), 0)) := Lib.hid (by unfold stepM; rw [hn])
  rw [hM.out]
  obtain ⟨i, q, rfl, _, hi, h4, dv, ev, h5⟩ := node_where h hn
  have hc := Lib.hid (node_yes h h4 hlen)
  have hlo := Lib.hid (lookup_any h5 (hf.2 i I hi) x)
  have c2 : w.cell? ⟨q, 2, none⟩ = some (.int .i64 I.links) := h5.blk.cell 2
  have c6 : w.cell? ⟨q, 6, none⟩ = some (.int .i64 I.parent) := h5.blk.cell 6
  have hi9 : i ≤ 100000 := by have := (List.getElem?_eq_some_iff.1 hi).1; omega
  obtain ⟨E, hE⟩ : ∃ E, enterM f ((i : Int) + 1) = E := ⟨_, rfl⟩
  rw [hE] at he ⊢
  clear h hn h4 h5 hM hf hi hE
  by_cases h1 : E = 0
  · subst h1
    rw [if_neg (fun h => h rfl), if_neg (show ¬ (i : Int) + 1 = 0 by omega)]
    by_cases h2 : x = dotT
    · rw [if_pos h2]
      subst h2
      have hni : ¬ (i : Int) + 1 = 0 := by omega
      have hnb : (((i : Int) + 1) == 0) = false := beq_eq_false_iff_ne.2 hni
      unfold dotT
      go_enter Try.func65, Try.ntmps65
      go_wp2_with (first | (go_at_call 66; refine he.out.mono ?_; rintro e w' ⟨rfl, rfl⟩) | (go_at_call 38; refine hc.out.mono ?_; rintro e w' ⟨rfl, rfl⟩))
      go_ret2
      exact ⟨rfl, Below.refl _ _⟩
    · rw [if_neg h2]
      have e2 := str_dot h2
      by_cases h3 : x = dotsT
      · rw [if_pos h3]
        subst h3
        unfold dotsT
        by_cases h4 : 0 < I.links
        · by_cases h5 : I.parent = 0
          · rw [if_neg (fun h => h.2 h5)]
            rw [h5] at c6
            go_enter Try.func65, Try.ntmps65
            go_wp2_with (first | (go_at_call 66; refine he.out.mono ?_; rintro e w' ⟨rfl, rfl⟩) | (go_at_call 38; refine hc.out.mono ?_; rintro e w' ⟨rfl, rfl⟩))
            go_ret2
            exact ⟨rfl, Below.refl _ _⟩
          · rw [if_pos ⟨h4, h5⟩]
            have e5 : ((I.parent : Int) == 0) = false := beq_eq_false_iff_ne.2 (by omega)
            go_enter Try.func65, Try.ntmps65
            go_wp2_with (first | (go_at_call 66; refine he.out.mono ?_; rintro e w' ⟨rfl, rfl⟩) | (go_at_call 38; refine hc.out.mono ?_; rintro e w' ⟨rfl, rfl⟩))
            go_ret2
            exact ⟨rfl, Below.refl _ _⟩
        · rw [if_neg (fun h => h4 h.1)]
          go_enter Try.func65, Try.ntmps65
          go_wp2_with (first | (go_at_call 66; refine he.out.mono ?_; rintro e w' ⟨rfl, rfl⟩) | (go_at_call 38; refine hc.out.mono ?_; rintro e w' ⟨rfl, rfl⟩))
          go_ret2
          exact ⟨rfl, Below.refl _ _⟩
      · rw [if_neg h3]
        have e3 := str_dots h3
        by_cases h4 : 32 < x.size
        · rw [if_pos h4]
          go_enter Try.func65, Try.ntmps65
          go_wp2_with (first | (go_at_call 66; refine he.out.mono ?_; rintro e w' ⟨rfl, rfl⟩) | (go_at_call 38; refine hc.out.mono ?_; rintro e w' ⟨rfl, rfl⟩))
          go_ret2
          exact ⟨rfl, Below.refl _ _⟩
        · rw [if_neg h4]
          by_cases h5 : lookM I.ents x = 0
          · rw [if_pos h5]
            rw [h5] at hlo
            go_enter Try.func65, Try.ntmps65
            go_wp2_with (first | (go_at_call 66; refine he.out.mono ?_; rintro e w' ⟨rfl, rfl⟩) | (go_at_call 38; refine hc.out.mono ?_; rintro e w' ⟨rfl, rfl⟩) | (go_at_call 55; refine hlo.out.mono ?_; rintro e w1 ⟨rfl, hb⟩))
            go_ret2
            exact ⟨rfl, hb⟩
          · rw [if_neg h5]
            obtain ⟨k, hk⟩ : ∃ k, lookM I.ents x = k := ⟨_, rfl⟩
            rw [hk] at hlo h5 ⊢
            have e5 : ((k : Int) == 0) = false := beq_eq_false_iff_ne.2 (by omega)
            clear hk
            go_enter Try.func65, Try.ntmps65
            go_wp2_with (first | (go_at_call 66; refine he.out.mono ?_; rintro e w' ⟨rfl, rfl⟩) | (go_at_call 38; refine hc.out.mono ?_; rintro e w' ⟨rfl, rfl⟩) | (go_at_call 55; refine hlo.out.mono ?_; rintro e w1 ⟨rfl, hb⟩))
            go_ret2
            exact ⟨rfl, hb⟩
  · rw [if_pos h1]
    have e1 : ((E : Int) != 0) = true := by simp; omega
    go_enter Try.func65, Try.ntmps65
    go_wp2_with (go_at_call 66; refine he.out.mono ?_; rintro e w' ⟨rfl, rfl⟩)
    go_ret2
    exact ⟨rfl, Below.refl _ _⟩
end
end Go.Proofs.Ytohgecmbkjienaa
