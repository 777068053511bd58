/- What is closed; awake's trees. No condition. -/
import Derived.Test.YtohgecmbkjienaaFlAE
namespace Go.Proofs.Ytohgecmbkjienaa
open Go.RowKit Go.Shelf Go.PlainAid
theorem closed_of {f : Fs} (h1 : (node f 1).isSome) (h : ∀ (i : Nat) I, f[i]? = some (some I) → (0 < I.links → I.parent ≠ 0 → (node f (I.parent : Int)).isSome) ∧ ∀ e ∈ I.ents, e.2 ≠ 0 → (node f (e.2 : Int)).isSome) : Closed f := by
  refine ⟨h1, fun n x hn hs => ?_⟩
  obtain ⟨I, hI⟩ := Option.isSome_iff_exists.1 hn
  obtain ⟨i, _, _, hi⟩ := node_some hI
  obtain ⟨ha, hb⟩ := h i I hi
  unfold stepM at hs ⊢
  rw [hI] at hs ⊢
  by_cases e1 : enterM f n = 0
  · rw [if_neg (fun h => h e1)] at hs ⊢
    dsimp only at hs ⊢
    by_cases e2 : x = dotT
    · rw [if_pos e2] at hs ⊢
      by_cases e3 : n = 0
      · rw [if_pos e3] at hs
        cases hs
      · rw [if_neg e3]
        exact hn
    · rw [if_neg e2] at hs ⊢
      by_cases e3 : x = dotsT
      · rw [if_pos e3] at hs ⊢
        by_cases e4 : 0 < I.links ∧ I.parent ≠ 0
        · rw [if_pos e4]
          exact ha e4.1 e4.2
        · rw [if_neg e4] at hs
          cases hs
      · rw [if_neg e3] at hs ⊢
        by_cases e4 : 32 < x.size
        · rw [if_pos e4] at hs
          cases hs
        · rw [if_neg e4] at hs ⊢
          by_cases e5 : lookM I.ents x = 0
          · rw [if_pos e5] at hs
            cases hs
          · rw [if_neg e5]
            cases hh : has (nms I.ents) x with
            | false => exact absurd (lookM_no hh) e5
            | true =>
              obtain ⟨y, hy, _, hl⟩ := lookM_yes hh
              rw [hl] at e5 ⊢
              exact hb y (List.mem_of_getElem? hy) e5
  · rw [if_pos e1] at hs
    exact absurd hs e1
def dT : ByteArray := ⟨#[100]⟩
def dfT : ByteArray := ⟨#[100, 47, 102]⟩
def fT : ByteArray := ⟨#[102]⟩
def xT : ByteArray := ⟨#[120]⟩
def wT : ByteArray := ⟨#[47, 100, 47, 46, 47, 102]⟩
def aw1 : Fs := [some ⟨2, 493, 1, 0, [], [(dT, 2)], 1⟩, some ⟨2, 493, 1, 0, [], [], 1⟩]
def aw2 : Fs := [some ⟨2, 493, 1, 0, [], [(dT, 2)], 1⟩, some ⟨2, 493, 1, 0, [], [(fT, 3)], 1⟩, some ⟨1, 420, 1, 0, [], [], 0⟩]
def aw3 : Fs := [some ⟨2, 493, 1, 0, [], [(dT, 2)], 1⟩, some ⟨2, 493, 1, 0, [], [(fT, 3)], 1⟩, some ⟨1, 420, 1, 0, [0, 0, 120], [], 0⟩]
theorem aw1_is : MkdirM newM 1 dT 493 = (2, 0, aw1) := by kernel_rfl
theorem aw2_is : CreateM aw1 1 dfT 420 = (3, 0, aw2) := by kernel_rfl
theorem aw3_is : WriteM aw2 3 2 xT = (1, 0, aw3) := by kernel_rfl
theorem aw4_is : WalkM aw3 1 wT = (3, 0) := by kernel_rfl
theorem aw5_is : bytesM aw3 = 3 := by kernel_rfl
def fineB (I : Ino) : Bool := decide ((nms I.ents).Pairwise (fun a b => lt a b = true)) && decide (I.ents.length ≤ 10000) && decide (I.data.length ≤ 70000) && decide (I.links ≤ 10000) && decide (I.holds ≤ 10000)
theorem fine_of {I : Ino} (h : fineB I = true) : Fine I := by
  unfold fineB at h
  simp only [Bool.and_eq_true, decide_eq_true_eq] at h
  exact ⟨h.1.1.1.1, h.1.1.1.2, h.1.1.2, h.1.2, h.2⟩
def goodB (f : Fs) : Bool := decide (f.length ≤ 9000) && (node f 1).isSome && f.all fun
  | none => true
  | some I => fineB I && (decide (I.links = 0) || decide (I.parent = 0) || (node f (I.parent : Int)).isSome) && I.ents.all fun e => decide (e.2 = 0) || (node f (e.2 : Int)).isSome
theorem good_of {f : Fs} (h : goodB f = true) : FineF f ∧ Closed f ∧ f.length ≤ 9000 := by
  unfold goodB at h
  simp only [Bool.and_eq_true, decide_eq_true_eq, List.all_eq_true] at h
  obtain ⟨⟨h1, h2⟩, h3⟩ := h
  have h4 : ∀ (i : Nat) I, f[i]? = some (some I) → (fineB I = true ∧ (decide (I.links = 0) || decide (I.parent = 0) || (node f (I.parent : Int)).isSome) = true) ∧ ∀ e ∈ I.ents, (decide (e.2 = 0) || (node f (e.2 : Int)).isSome) = true := fun i I hi => by
    have h5 := h3 (some I) (List.mem_of_getElem? hi)
    simpa only [Bool.and_eq_true, List.all_eq_true] using h5
  refine ⟨⟨by omega, fun i I hi => fine_of (h4 i I hi).1.1⟩, closed_of h2 (fun i I hi => ⟨fun k1 k2 => ?_, fun e he k => ?_⟩), h1⟩
  · have h5 := (h4 i I hi).1.2
    simp only [Bool.or_eq_true, decide_eq_true_eq] at h5
    rcases h5 with (h5 | h5) | h5
    · omega
    · exact absurd h5 k2
    · exact h5
  · have h5 := (h4 i I hi).2 e he
    simp only [Bool.or_eq_true, decide_eq_true_eq] at h5
    rcases h5 with h5 | h5
    · exact absurd h5 k
    · exact h5
theorem new_good : FineF newM ∧ Closed newM ∧ newM.length ≤ 9000 := good_of (by kernel_rfl)
theorem aw1_good : FineF aw1 ∧ Closed aw1 ∧ aw1.length ≤ 9000 := good_of (by kernel_rfl)
theorem aw2_good : FineF aw2 ∧ Closed aw2 ∧ aw2.length ≤ 9000 := good_of (by kernel_rfl)
theorem aw3_good : FineF aw3 ∧ Closed aw3 ∧ aw3.length ≤ 9000 := good_of (by kernel_rfl)

/-- A tree of the call's own. -/
def Own (w0 w : World) (p : Nat) (f : Fs) : Prop := FsP (fun _ => False) w0 w p f
theorem Own.step {w0 w w' : World} {p : Nat} {f f' : Fs} (h : Own w0 w p f) (k : ∀ B sv ps, FsAt w B p f sv ps → FsP (All B) w w' p f') : Own w0 w' p f' := by
  obtain ⟨B, ⟨sv, ps, h1⟩, h2, h3⟩ := h
  exact FsP.trans (fun g hg => h2 g hg) h3 (k B sv ps h1)
theorem Own.below {w0 w w' : World} {p : Nat} {f : Fs} (h : Own w0 w p f) (hb : Below w.heap.size w w') : Own w0 w' p f := h.step (fun _ _ _ h => FsP.of ⟨_, _, h⟩ hb)
theorem Own.toBelow {w0 w : World} {p : Nat} {f : Fs} (h : Own w0 w p f) : Below w0.heap.size w0 w := by
  obtain ⟨B, h1, h2, h3⟩ := h
  exact h3.toBelow (fun g hg => hg.elim) (Nat.le_refl _)
theorem Own.calls {w0 w : World} {p : Nat} {f f' : Fs} {F : Nat} {args : Array Value} {R : Ending} (h : Own w0 w p f) (k : ∀ B sv ps, FsAt w B p f sv ps → Calls Try.prog F args w fun e w' => e = R ∧ FsP (All B) w w' p f') : Calls Try.prog F args w fun e w' => e = R ∧ Own w0 w' p f' := by
  obtain ⟨B, ⟨sv, ps, h1⟩, h2, h3⟩ := h
  exact (k B sv ps h1).mono fun e w' h9 => ⟨h9.1, FsP.trans (fun g hg => h2 g hg) h3 h9.2⟩
theorem Own.reads {w0 w : World} {p : Nat} {f : Fs} {F : Nat} {args : Array Value} {R : Ending} (h : Own w0 w p f) (k : ∀ B sv ps, FsAt w B p f sv ps → Calls Try.prog F args w fun e w' => e = R ∧ Below w.heap.size w w') : Calls Try.prog F args w fun e w' => e = R ∧ Own w0 w' p f := by
  obtain ⟨B, ⟨sv, ps, h1⟩, h2, h3⟩ := h
  exact (k B sv ps h1).mono fun e w' h9 => ⟨h9.1, FsP.trans (fun g hg => h2 g hg) h3 (FsP.of ⟨_, _, h1⟩ h9.2)⟩
theorem new_own (w : World) : Calls Try.prog 10 #[] w fun e w' => e = .returned (.pointer (some ⟨w.heap.size, 0, none⟩)) ∧ Own w w' w.heap.size newM := new_any w
section
variable {w0 w : World} {p : Nat}
theorem aw_mkdir (h : Own w0 w p newM) : Calls Try.prog 31 #[.pointer (some ⟨p, 0, none⟩), .int .i64 1, .string ⟨#[100]⟩, .int .i64 493] w fun e w' => e = .returned (.int .i64 0) ∧ Own w0 w' p aw1 :=
  h.calls fun B sv ps h1 => by
    have h9 := mkdir_any h1 new_good.1 new_good.2.2 new_good.2.1 1 dT 493 (by unfold maxLen; decide)
    rw [aw1_is] at h9
    exact h9
theorem aw_create (h : Own w0 w p aw1) : Calls Try.prog 17 #[.pointer (some ⟨p, 0, none⟩), .int .i64 1, .string ⟨#[100, 47, 102]⟩, .int .i64 420] w fun e w' => e = .returned (.tuple #[.int .i64 3, .int .i64 0]) ∧ Own w0 w' p aw2 :=
  h.calls fun B sv ps h1 => by
    have h9 := create_any h1 aw1_good.1 aw1_good.2.2 aw1_good.2.1 1 dfT 420 (by unfold maxLen; decide)
    rw [aw2_is] at h9
    exact h9
theorem aw_write (h : Own w0 w p aw2) : Calls Try.prog 18 #[.pointer (some ⟨p, 0, none⟩), .int .i64 3, .int .i64 2, .string ⟨#[120]⟩] w fun e w' => e = .returned (.tuple #[.int .i64 1, .int .i64 0]) ∧ Own w0 w' p aw3 :=
  h.calls fun B sv ps h1 => by
    have h9 := write_any h1 aw2_good.1 3 2 xT (by decide)
    rw [aw3_is] at h9
    exact h9
theorem aw_walk (h : Own w0 w p aw3) : Calls Try.prog 24 #[.pointer (some ⟨p, 0, none⟩), .int .i64 1, .string ⟨#[47, 100, 47, 46, 47, 102]⟩] w fun e w' => e = .returned (.tuple #[.int .i64 3, .int .i64 0]) ∧ Own w0 w' p aw3 :=
  h.reads fun B sv ps h1 => by
    have h9 := Walk_any h1 aw3_good.1 aw3_good.2.1 1 wT (by unfold maxLen; decide)
    rw [aw4_is] at h9
    exact h9
theorem aw_bytes (h : Own w0 w p aw3) : Calls Try.prog 12 #[.pointer (some ⟨p, 0, none⟩)] w fun e w' => e = .returned (.int .i64 3) ∧ Own w0 w' p aw3 :=
  h.reads fun B sv ps h1 => by
    have h9 := bytes_any h1 aw3_good.1
    rw [aw5_is] at h9
    exact h9
end
set_option maxRecDepth 100000 in
theorem awake_any (w : World) : Calls Try.prog 9 #[] w fun e w' => e = .returned (.bool true) ∧ Below w.heap.size w w' := by
  go_enter Try.func9, Try.ntmps9
  go_wp2_with (first | (go_at_call 10; refine (new_own _).mono ?_; rintro e w1 ⟨rfl, h1⟩) | (go_at_call 31; refine (aw_mkdir h1).mono ?_; rintro e w2 ⟨rfl, h2⟩) | (go_at_call 17; refine (aw_create h2).mono ?_; rintro e w3 ⟨rfl, h3⟩) | (go_at_call 18; refine (aw_write h3).mono ?_; rintro e w4 ⟨rfl, h4⟩) | (go_at_call 24; refine (aw_walk h4).mono ?_; rintro e w5 ⟨rfl, h5⟩) | (go_at_call 12; refine (aw_bytes h5).mono ?_; rintro e w6 ⟨rfl, h6⟩))
  go_ret
  exact ⟨rfl, h6.toBelow⟩
end Go.Proofs.Ytohgecmbkjienaa
