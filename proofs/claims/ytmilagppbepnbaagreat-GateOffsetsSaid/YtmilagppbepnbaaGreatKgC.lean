/- The kernel: tables of descriptors by plain functions; a process's table turns. Condition: the kernel lies as stated. -/
import Derived.Test.YtmilagppbepnbaaGreatKgB
namespace Go.Proofs.YtmilagppbepnbaaGreat.Kn
open Go.RowKit Go.PlainAid
set_option linter.unusedVariables false
set_option linter.unusedSimpArgs false
attribute [local go_sem] Oper.semAt_some
/-- The first free number from a on, of m that are looked at. -/
def ffree (f : Nat → Pp.Sl) : Nat → Nat → Option Nat
  | 0, _ => none
  | m + 1, a => if (f a).tk then ffree f m (a + 1) else some a
theorem ffree_some {f : Nat → Pp.Sl} : ∀ {m a j : Nat}, ffree f m a = some j → a ≤ j ∧ j < a + m ∧ (f j).tk = false ∧ ∀ k, a ≤ k → k < j → (f k).tk = true
  | 0, a, j, h => by cases h
  | m + 1, a, j, h => by
    unfold ffree at h
    cases ht : (f a).tk with
    | true =>
      rw [ht, if_pos rfl] at h
      obtain ⟨h1, h2, h3, h4⟩ := ffree_some h
      refine ⟨by omega, by omega, h3, fun k k1 k2 => ?_⟩
      rcases Nat.eq_or_lt_of_le k1 with e | e
      · rw [← e]; exact ht
      · exact h4 k e k2
    | false =>
      rw [ht, if_neg (by decide)] at h
      cases h
      exact ⟨Nat.le_refl _, by omega, ht, fun k k1 k2 => by omega⟩
theorem ffree_none {f : Nat → Pp.Sl} : ∀ {m a : Nat}, ffree f m a = none → ∀ k, a ≤ k → k < a + m → (f k).tk = true
  | 0, a, _, k, h1, h2 => by omega
  | m + 1, a, h, k, h1, h2 => by
    unfold ffree at h
    cases ht : (f a).tk with
    | true =>
      rw [ht, if_pos rfl] at h
      rcases Nat.eq_or_lt_of_le h1 with e | e
      · rw [← e]; exact ht
      · exact ffree_none h k e (by omega)
    | false => rw [ht, if_neg (by decide)] at h; cases h
/-- Put, Cut, Set, Mark: what is answered, and the slots behind. -/
def tputM (f : Nat → Pp.Sl) (x least : Int) : Int × Int × (Nat → Pp.Sl) :=
  if 0 ≤ least ∧ least < 32 then (match ffree f (32 - least.toNat) least.toNat with | some j => ((j : Int), 0, Pp.upd f j ⟨true, false, x⟩) | none => (0, 24, f)) else (0, 22, f)
def tcutM (f : Nat → Pp.Sl) (fd : Int) : Int × Int × (Nat → Pp.Sl) :=
  if 0 ≤ fd ∧ fd < 32 then (if (f fd.toNat).tk then ((f fd.toNat).x, 0, Pp.upd f fd.toNat Pp.Sl.none) else (0, 9, f)) else (0, 9, f)
def tsetM (f : Nat → Pp.Sl) (fd x : Int) : Int × Bool × Int × (Nat → Pp.Sl) :=
  if 0 ≤ fd ∧ fd < 32 then ((f fd.toNat).x, (f fd.toNat).tk, 0, Pp.upd f fd.toNat ⟨true, false, x⟩) else (0, false, 9, f)
def tmarkM (f : Nat → Pp.Sl) (fd : Int) (b : Bool) : Int × (Nat → Pp.Sl) :=
  if 0 ≤ fd ∧ fd < 32 then (if (f fd.toNat).tk then (0, Pp.upd f fd.toNat { f fd.toNat with mr := b }) else (9, f)) else (9, f)
def tfreeM (f : Nat → Pp.Sl) : Int := 32 - (Pp.upto f 32).length
section
variable {w : World} {T : Nat} {f : Nat → Pp.Sl}
theorem tabPut_any (h : Pp.TabAt w T f) (x least : Int) : Calls Tryz.prog 59 #[.pointer (some ⟨T, 0, none⟩), .int .i64 x, .int .i64 least] w fun e w' => e = .returned (.tuple #[.int .i64 (tputM f x least).1, .int .i64 (tputM f x least).2.1]) ∧ Pp.TabAt w' T (tputM f x least).2.2 ∧ Pp.Frame T T w w' := by
  unfold tputM
  by_cases hl : 0 ≤ least ∧ least < 32
  · obtain ⟨a, rfl⟩ : ∃ a : Nat, least = a := ⟨least.toNat, by omega⟩
    rw [if_pos hl, Int.toNat_natCast]
    cases hf : ffree f (32 - a) a with
    | none =>
      have := ffree_none hf
      exact (Pp.put_full x a (by omega) w h (Lib.hid (fun k h1 h2 => this k h1 (by omega)))).mono fun e w' ⟨h1, h2⟩ => ⟨h1, by rw [h2]; exact h, by rw [h2]; exact Pp.Frame.refl _ _ _⟩
    | some j =>
      obtain ⟨h1, h2, h3, h4⟩ := ffree_some hf
      exact Pp.put_in x a j h1 (by omega) w h (Lib.hid h4) (Lib.hid h3)
  · rw [if_neg hl]
    exact (Pp.put_bad x least hl w).mono fun e w' ⟨h1, h2⟩ => ⟨h1, by rw [h2]; exact h, by rw [h2]; exact Pp.Frame.refl _ _ _⟩
theorem tabCut_any (h : Pp.TabAt w T f) (fd : Int) : Calls Tryz.prog 198 #[.pointer (some ⟨T, 0, none⟩), .int .i64 fd] w fun e w' => e = .returned (.tuple #[.int .i64 (tcutM f fd).1, .int .i64 (tcutM f fd).2.1]) ∧ Pp.TabAt w' T (tcutM f fd).2.2 ∧ Pp.Frame T T w w' := by
  have hg := tabGet_any h fd
  unfold tcutM
  by_cases hl : 0 ≤ fd ∧ fd < 32
  · obtain ⟨a, rfl⟩ : ∃ a : Nat, fd = a := ⟨fd.toNat, by omega⟩
    rw [if_pos hl, Int.toNat_natCast]
    cases ht : (f a).tk with
    | true =>
      rw [if_pos rfl]
      exact Pp.cut_in a (by omega) w h ht
    | false =>
      rw [if_neg (by decide)]
      have hg2 : Calls Tryz.prog 188 #[.pointer (some ⟨T, 0, none⟩), .int .i64 a] w fun e w' => e = .returned (.tuple #[.int .i64 0, .int .i64 9]) ∧ w' = w := by
        unfold tabM at hg
        rw [if_pos hl, Int.toNat_natCast] at hg
        unfold Pp.Sl.val Pp.Sl.err at hg
        rw [ht] at hg
        exact hg
      exact (Pp.cut_none (a : Int) w (Lib.hid hg2)).mono fun e w' ⟨h1, h2⟩ => ⟨h1, by rw [h2]; exact h, by rw [h2]; exact Pp.Frame.refl _ _ _⟩
  · rw [if_neg hl]
    unfold tabM at hg
    rw [if_neg hl] at hg
    exact (Pp.cut_none fd w (Lib.hid hg)).mono fun e w' ⟨h1, h2⟩ => ⟨h1, by rw [h2]; exact h, by rw [h2]; exact Pp.Frame.refl _ _ _⟩
theorem tabSet_any (h : Pp.TabAt w T f) (fd x : Int) : Calls Tryz.prog 199 #[.pointer (some ⟨T, 0, none⟩), .int .i64 fd, .int .i64 x] w fun e w' => e = .returned (.tuple #[.int .i64 (tsetM f fd x).1, .bool (tsetM f fd x).2.1, .int .i64 (tsetM f fd x).2.2.1]) ∧ Pp.TabAt w' T (tsetM f fd x).2.2.2 ∧ Pp.Frame T T w w' := by
  unfold tsetM
  by_cases hl : 0 ≤ fd ∧ fd < 32
  · obtain ⟨a, rfl⟩ : ∃ a : Nat, fd = a := ⟨fd.toNat, by omega⟩
    rw [if_pos hl, Int.toNat_natCast]
    exact Pp.set_in x a (by omega) w h
  · rw [if_neg hl]
    exact (Pp.set_out fd x hl w).mono fun e w' ⟨h1, h2⟩ => ⟨h1, by rw [h2]; exact h, by rw [h2]; exact Pp.Frame.refl _ _ _⟩
theorem tabMark_any (h : Pp.TabAt w T f) (fd : Int) (b : Bool) : Calls Tryz.prog 145 #[.pointer (some ⟨T, 0, none⟩), .int .i64 fd, .bool b] w fun e w' => e = .returned (.int .i64 (tmarkM f fd b).1) ∧ Pp.TabAt w' T (tmarkM f fd b).2 ∧ Pp.Frame T T w w' := by
  unfold tmarkM
  by_cases hl : 0 ≤ fd ∧ fd < 32
  · obtain ⟨a, rfl⟩ : ∃ a : Nat, fd = a := ⟨fd.toNat, by omega⟩
    rw [if_pos hl, Int.toNat_natCast]
    cases ht : (f a).tk with
    | true => rw [if_pos rfl]; exact Pp.mark_in b a (by omega) w h ht
    | false =>
      rw [if_neg (by decide)]
      exact (Pp.mark_none b a (by omega) w h ht).mono fun e w' ⟨h1, h2⟩ => ⟨h1, by rw [h2]; exact h, by rw [h2]; exact Pp.Frame.refl _ _ _⟩
  · rw [if_neg hl]
    exact (Pp.mark_out fd b hl w).mono fun e w' ⟨h1, h2⟩ => ⟨h1, by rw [h2]; exact h, by rw [h2]; exact Pp.Frame.refl _ _ _⟩
end
section
variable {w w' : World} {B : Ix → Nat → Prop} {q : Nat} {K : Ker} {M : Mp}
/-- A process's table turns. -/
theorem step_T (h : KerIs w B q K M) {n : Nat} {P : Prc} (hP : ask K.procs n = some P) {f : Nat → Pp.Sl} (hT : Pp.TabAt w' (M.bt n) f) (hF : Pp.Frame (M.bt n) (M.bt n) w w') :
    KP (AllX B) w K M w' q (setR K n { P with tab := f }) := by
  obtain ⟨hB, _, hS1, hS2, hne⟩ : PrcAt w (B (.proc n)) (M.br n) (M.bt n) P := h.part (.proc n) P hP
  have hbr : w'.heap[M.br n]? = w.heap[M.br n]? := hF.block _ (h.lt _ _ hS1) (fun e => hne e.symm) (fun e => hne e.symm)
  exact step_R h hP (S := B (.proc n)) ⟨hB.keep hbr, hT, hS1, hS2, hne⟩ (fun g hg => .inl hg) (fun g hg => Nat.lt_of_lt_of_le (h.lt _ _ hg) hF.size) (frm_of_pp hF hS2 hS2)
/-- A description's cell turns. -/
theorem step_dc (h : KerIs w B q K M) {n : Nat} {D D' : Dsc} (hD : ask K.descs n = some D) (i : Nat) (v : Value) (hc : (dcells M.bx D).toArray.setIfInBounds i v = (dcells M.bx D').toArray) : KP (AllX B) w K M (w.setCell ⟨M.bd n, i, none⟩ v) q (setD K n D') := by
  obtain ⟨hB, hS⟩ : DscAt M.bx w (B (.desc n)) (M.bd n) D := h.part (.desc n) D hD
  exact step_D h hD (S := B (.desc n)) ⟨by rw [← hc]; exact hB.set_ i v, hS⟩ (fun g hg => .inl hg) (fun g hg => by simpa using h.lt _ _ hg) ((Frm.refl _ _).setCell (a := ⟨M.bd n, i, none⟩) (.inl hS) v)
/-- A process's cell turns. -/
theorem step_pc (h : KerIs w B q K M) {n : Nat} {P P' : Prc} (hP : ask K.procs n = some P) (i : Nat) (v : Value) (hc : ∀ tb, (pcells P tb).toArray.setIfInBounds i v = (pcells P' tb).toArray) (ht : P'.tab = P.tab) : KP (AllX B) w K M (w.setCell ⟨M.br n, i, none⟩ v) q (setR K n P') := by
  obtain ⟨hB, hT, hS1, hS2, hne⟩ : PrcAt w (B (.proc n)) (M.br n) (M.bt n) P := h.part (.proc n) P hP
  exact step_R h hP (S := B (.proc n)) ⟨by rw [← hc (M.bt n)]; exact hB.set_ i v, by rw [ht]; exact hT.keep (Below.heap_setCell _ _ _ _ hne), hS1, hS2, hne⟩ (fun g hg => .inl hg) (fun g hg => by simpa using h.lt _ _ hg) ((Frm.refl _ _).setCell (a := ⟨M.br n, i, none⟩) (.inl hS1) v)
end
end Go.Proofs.YtmilagppbepnbaaGreat.Kn
