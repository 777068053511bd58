/- holds: up the parents. Condition: the tree lies as stated; the parents lead to the root. -/
import Derived.Test.YtohgecmbkjienaaFlAT
namespace Go.Proofs.Ytohgecmbkjienaa
open Go.RowKit Go.Shelf Go.PlainAid
attribute [local go_sem] Oper.semAt_some
/-- The parents lead to the root in d steps. -/
inductive Deep (f : Fs) : Nat → Nat → Prop
  | root : Deep f 0 1
  | up (d n : Nat) (I : Ino) (h1 : n ≠ 1) (hn : node f (n : Int) = some I) (h : Deep f d I.parent) : Deep f (d + 1) n
theorem Deep.uniq {f : Fs} {d n : Nat} (h : Deep f d n) : ∀ {e : Nat}, Deep f e n → d = e := by
  induction h with
  | root =>
    intro e h
    cases h with
    | root => rfl
    | up _ _ _ h1 _ _ => exact absurd rfl h1
  | up d n I h1 hn h ih =>
    intro e k
    cases k with
    | root => exact absurd rfl h1
    | up e' _ J _ hn' k' =>
      rw [hn] at hn'
      cases hn'
      rw [ih k']
open Classical in
noncomputable def dep (f : Fs) (n : Nat) : Nat := if h : ∃ d, Deep f d n then Classical.choose h else 0
theorem dep_eq {f : Fs} {d n : Nat} (h : Deep f d n) : dep f n = d := by
  have hx : ∃ d, Deep f d n := ⟨d, h⟩
  unfold dep
  rw [dif_pos hx]
  exact ((Classical.choose_spec hx).uniq h)
/-- Is one directory another, or above it? -/
def holdsM (f : Fs) : Nat → Nat → Nat → Bool
  | 0, a, n => n == a
  | d + 1, a, n => if n = a then true else match node f (n : Int) with
    | none => false
    | some I => holdsM f d a I.parent
section
variable {w : World} {B : Nat → Nat → Prop} {p : Nat} {f : Fs} {sv : Value} {ps : List (Option Nat)}
set_option maxHeartbeats 1000000 in
theorem holds_any (h : FsAt w B p f sv ps) (hf : FineF f) (a n d : Nat) (hd : Deep f d n) : Calls Try.prog 70 #[.pointer (some ⟨p, 0, none⟩), .int .i64 a, .int .i64 n] w fun e w' => e = .returned (.bool (holdsM f d a n)) ∧ w' = w := by
  have hlen : f.length ≤ 100000 := by have := hf.1; omega
  have hH := Lib.hid h
  obtain ⟨r, hr⟩ : ∃ r, holdsM f d a n = r := ⟨_, rfl⟩
  rw [hr]
  have hdH := Lib.hid hd
  have hrH := Lib.hid hr
  clear h hf hd hr
  go_enter Try.func70, Try.ntmps70
  go_wp2
  go_loopw [2] (fun s2 wr => ∃ k m : Nat, s2 = .int .i64 m ∧ w = wr ∧ Hid (Deep f k m) ∧ Hid (holdsM f k a m = r)) (fun s2 _ => dep f (intOf s2).toNat)
  case atStart => exact ⟨d, n, rfl, rfl, hdH, hrH⟩
  case round =>
    obtain ⟨k, m, rfl, rfl, hk, hm⟩ := hrel
    by_cases e1 : m = a
    · subst e1
      have hr2 : Hid (r = true) := Lib.hid (by
        rw [← hm.out]
        cases k with
        | zero => simp [holdsM]
        | succ k => simp [holdsM])
      go_wp2
      go_ret
      exact ⟨by rw [hr2.out]; rfl, rfl⟩
    · by_cases e2 : m = 1
      · subst e2
        have hr2 : Hid (r = false) := Lib.hid (by
          have h9 := hk.out.uniq Deep.root
          subst h9
          rw [← hm.out]
          simp [holdsM, e1])
        have x1 : ((1 : Int) != (a : Int)) = true := bne_iff_ne.2 (by omega)
        have x2 : ((1 : Int) == (a : Int)) = false := beq_eq_false_iff_ne.2 (by omega)
        go_wp2
        go_ret
        refine ⟨?_, rfl⟩
        rw [hr2.out]
        simp
      · obtain ⟨k, rfl⟩ : ∃ k', k = k' + 1 := by
          cases k with
          | zero =>
            have h9 := hk.out
            cases h9
            exact absurd rfl e2
          | succ k => exact ⟨k, rfl⟩
        obtain ⟨I, hn, hdI⟩ : ∃ I, node f (m : Int) = some I ∧ Deep f k I.parent := by
          have h9 := hk.out
          cases h9 with
          | up _ _ I _ hn hI => exact ⟨I, hn, hI⟩
        have hm2 : Hid (holdsM f k a I.parent = r) := Lib.hid (by
          have h9 := hm.out
          unfold holdsM at h9
          rw [if_neg e1, hn] at h9
          exact h9)
        have hme := Lib.hid (show dep f I.parent < dep f m by rw [dep_eq hdI, dep_eq hk.out]; omega)
        obtain ⟨i, q, hi, _, _, hq, dv, ev, hA⟩ := node_where hH.out hn
        have hnd := Lib.hid (node_yes hH.out hq hlen)
        rw [← hi] at hnd
        have c6 : w.cell? ⟨q, 6, none⟩ = some (.int .i64 I.parent) := hA.blk.cell 6
        have hdH2 := Lib.hid hdI
        have x1 : ((m : Int) != (a : Int)) = true := bne_iff_ne.2 (by omega)
        have x2 : ((m : Int) != 1) = true := bne_iff_ne.2 (by omega)
        clear hn hdI hi hq hA
        go_wp2_with (go_at_call 38; refine hnd.out.mono ?_; rintro e w' ⟨rfl, rfl⟩)
        go_roundw
        case rel => exact ⟨k, I.parent, rfl, trivial, hdH2, hm2⟩
        case measure => simpa [intOf] using hme.out
end
end Go.Proofs.Ytohgecmbkjienaa
